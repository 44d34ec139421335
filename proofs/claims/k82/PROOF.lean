import PyProof.Rows.All
import Wide.All
import OpenK.AllK
import Wide.FinOn
import HandS.ForMost
import HandS.IsInst
import HandS.TupAny
import HandS.TupLe
import HandS.Wide
import HandS.Style
import HandS.SortInts
import HandS.Conv
import HandS.More
import HandS.EndTab
import HandS.EndOwn
import HandS.AnyAll
import HandS.GenOver
import HandS.Evl
import HandS.Walk
import HandS.NoneIn
import HandS.Zip
import HandS.DictComp
import HandS.SetFor
import KE.GoesEnum
import HandS.TupMul
import HandS.Strs
import KE.DataMinMax
import HandS.ForExc
import HandS.ExcIs
import HandS.SetKeys
import KE.DatumOrd
import HandS.Remove
import HandS.SortRule
import KE.KDictCopyH
import KE.KDictSum
import PySem.Challenge.RW_friendfoe_k82_whole_papers_show_no_more
set_option Elab.async false
set_option linter.all false
set_option maxRecDepth 100000
namespace FF
open PySem PySem.Spec PyProof.Rows L2
/-! ### heaps: what is kept -/
/-- all that is tracked, but at d and c, is as it was -/
def Kp (d c : Addr) (H H' : Hp) : Prop := ∀ b o, b ≠ d → b ≠ c → H b = some o → H' b = some o
theorem Kp.refl {d c : Addr} {H : Hp} : Kp d c H H := fun _ _ _ _ h => h
theorem Kp.trans {d c : Addr} {H H1 H2 : Hp} (a : Kp d c H H1) (b : Kp d c H1 H2) : Kp d c H H2 := fun x o h1 h2 h => b x o h1 h2 (a x o h1 h2 h)
theorem Kp.at_d {d c : Addr} {H : Hp} {o : HO} : Kp d c H (upd H d o) := fun b u h1 _ h => by rw [upd_ne h1]; exact h
theorem Kp.at_c {d c : Addr} {H : Hp} {o : HO} : Kp d c H (upd H c o) := fun b u _ h2 h => by rw [upd_ne h2]; exact h
theorem Kp.new {d c p : Addr} {H : Hp} {o : HO} (hp : H p = none) : Kp d c H (upd H p o) := fun b u _ _ h => by rw [upd_ne (ne_of_none h hp)]; exact h
theorem same_new {H : Hp} {p : Addr} {o : HO} (h : H p = none) : Same H (upd H p o) := fun b x e => by
  rw [upd_ne (ne_of_none e h)]
  exact e
theorem Same.kp {d c : Addr} {H H' : Hp} (s : Same H H') : Kp d c H H' := fun b o _ _ h => s b o h
/-! ### defs as they are called -/
def Df (P : Program) (w : World) (K : PySem.W.Frag) (mg : Str → Option Value) (base : Heap) (k : Nat) (x : Str) (ps : List Str) (sp : Sp) : Prop :=
  ∃ (f : Addr) (fd : FuncData), FnOk P w K mg base CX0 k f fd ps sp ∧ mg x = some (.ref f) ∧ PySem.W.keepIn K (.ref f) = true ∧ Binds K fd ps []
/-- built-in names that the module has not taken -/
structure Free (mg : Str → Option Value) : Prop where
  len : mg "len" = none
  int : mg "int" = none
  bool : mg "bool" = none
  str : mg "str" = none
  list : mg "list" = none
  tuple : mg "tuple" = none
  range : mg "range" = none
  isinstance : mg "isinstance" = none
  sum : mg "sum" = none
theorem mod_rng {a m : Int} (h : 0 < m) : 0 ≤ a % m ∧ a % m < m := ⟨Int.emod_nonneg a (by omega), Int.emod_lt_of_pos a h⟩
/-! ### the feed: a dict -/
def dkv (c : Addr) (n l st : Int) : List (Key × V) := [(Sum.inr "cells", V.ref c), (Sum.inr "at", .int n), (Sum.inr "left", .int l), (Sum.inr "seed", .int st)]
structure Deck (H : Hp) (d c : Addr) : Prop where
  ex : ∃ (cells : List Int) (st : Int) (n : Int × Int), H d = some (.dK (dkv c n.1 n.2 st)) ∧ H c = some (.lst (cells.map V.int)) ∧ cells.length ≤ 63 ∧ 0 ≤ n.1 ∧ n.1 ≤ cells.length ∧ 0 ≤ st ∧ st < 4294967296
theorem Deck.ne {H : Hp} {d c : Addr} (h : Deck H d c) : d ≠ c := by
  obtain ⟨cells, st, n, h1, h2, _⟩ := h
  exact ne_of h1 h2 (by intro z; cases z)
theorem Deck.same {H H' : Hp} {d c : Addr} (h : Deck H d c) (s : Same H H') : Deck H' d c := by
  obtain ⟨cells, st, n, h1, h2, h3⟩ := h
  exact ⟨cells, st, n, s _ _ h1, s _ _ h2, h3⟩
theorem dkv_at (c : Addr) (n l st : Int) : valV (dkv c n l st) (Sum.inr "at") = some (.int n) := rfl
theorem dkv_cells (c : Addr) (n l st : Int) : valV (dkv c n l st) (Sum.inr "cells") = some (.ref c) := rfl
theorem dkv_left (c : Addr) (n l st : Int) : valV (dkv c n l st) (Sum.inr "left") = some (.int l) := rfl
theorem dkv_seed (c : Addr) (n l st : Int) : valV (dkv c n l st) (Sum.inr "seed") = some (.int st) := rfl
theorem dkv_putAt (c : Addr) (n l st m : Int) : putK (dkv c n l st) (Sum.inr "at") (.int m) = dkv c m l st := rfl
theorem dkv_putLeft (c : Addr) (n l st m : Int) : putK (dkv c n l st) (Sum.inr "left") (.int m) = dkv c n m st := rfl
theorem dkv_putSeed (c : Addr) (n l st m : Int) : putK (dkv c n l st) (Sum.inr "seed") (.int m) = dkv c n l m := rfl
theorem dkv_new (c : Addr) (n l st : Int) : mergeK [] (dkv c n l st) = dkv c n l st := rfl
/-- a draw below m: any number from 0 on, less than m -/
def spDraw : Sp := fun vs H Q _ => ∃ (d c : Addr) (m : Int), vs = [.ref d, .int m] ∧ Deck H d c ∧ 0 < m ∧ m.natAbs < 2 ^ 120 ∧
  ∀ v H', 0 ≤ v → v < m → Deck H' d c → Kp d c H H' → Q (.int v) H'
/-! ### a generator expression's own frame -/
/-- the context of a generator's turns: its frame cenv stands over the def's -/
abbrev gX (X : Cx) (s : Shared) (H : Hp) (A' : Around) (cenv : Env) (fp : List Addr) : Cx :=
  { X with A := A', s_0 := s, H_0 := H, env := cenv, outer := X.stack, stack := cenv :: X.stack, ex := fp, fn := fun _ => false, pn := [], xe := fun _ _ => False }
/-- what is asked of the expression's own scope -/
structure GnOk (scope : Scope) : Prop where
  co : scope.isCoroutine = false
  nocell : ∀ y ∈ scope.names, y.2 ≠ .cell
  dot : scope.names.lookup (".0" : Str) = some NameKind.local
section
variable {X : Cx} {pins : List (Addr × Obj)} {σ : L2.St} {H : Hp} {s : Shared}
theorem gen_start {scope : Scope} {own : List (Str × Nat)} {fp : List Addr} {A' : Around} {code : Value} {m0 : Str → Option Value} {h5 : Heap} {g5 : Array GenState} {t5 : Nat} {a : Addr} {go : Obj}
    (I : Inv X pins σ H s) (ok : BlkOk X.N X.env.scope scope own) (gk : GnOk scope) (hN : X.N.Nodup) (hfp : ∀ b ∈ fp, FpOk X pins H b ∧ b < s.heap.objs.size)
    (hA : A'.handled = none) (hF : A'.frames = some (genEnv scope (cloFrom X.env.cells scope.names []) s.heap.objs.size code builtinsNs X.env :: X.stack))
    (kp : ∀ b o, s.heap.get? b = some o → h5.get? b = some o) (hn : h5.Ns s.heap.objs.size m0) (hm0 : ∀ x, x ≠ (".0" : Str) → m0 x = none) (hdN : (".0" : Str) ∉ X.N) (hb5 : AllBare g5)
    (ha : s.heap.objs.size < a) (hgo : h5.get? a = some go) (hgd : ∀ v, go.data ≠ .cell v) :
    Inv (gX X s H A' (genEnv scope (cloFrom X.env.cells scope.names []) s.heap.objs.size code builtinsNs X.env) fp) [(a, go)] (wipe σ (own.map (·.2))) H { s with heap := h5, gens := g5, toks := t5 } := by
  have hfree : ∀ y ∈ scope.names, y.2 = .free → ∃ c, X.env.cells.lookup y.1 = some c := fun y hy e =>
    (ok.free y hy e).elim (fun k => I.ok.has _ (.inl k)) fun k => I.ok.has _ (.inr k)
  have cm : ∀ {y c}, (y, c) ∈ cloFrom X.env.cells scope.names [] → X.env.cells.lookup y = some c ∧ c < s.heap.objs.size := fun {y c} q => by
    rcases cloFrom_mem q with q | ⟨h1, e1⟩
    · cases q
    · obtain ⟨c1, hc1⟩ := hfree _ h1 rfl
      rw [hc1] at e1
      cases e1
      obtain ⟨w1, z1⟩ := I.cell _ _ hc1
      exact ⟨hc1, z1.lt⟩
  have cl : ∀ {y c}, (cloFrom X.env.cells scope.names []).lookup y = some c → X.env.cells.lookup y = some c ∧ c < s.heap.objs.size := fun {y c} e => cm (PySem.mem_of_lookup e)
  have look : ∀ {y}, scope.names.lookup y = some .free → ∃ c, (cloFrom X.env.cells scope.names []).lookup y = some c := fun {y} e =>
    mem_lookup (cloFrom_has (cells := X.env.cells) (acc := []) (PySem.mem_of_lookup e))
  generalize hce : genEnv scope (cloFrom X.env.cells scope.names []) s.heap.objs.size code builtinsNs X.env = ce at hF
  have cL : ce.locals = s.heap.objs.size := by rw [← hce]; rfl
  have cC : ce.cells = cloFrom X.env.cells scope.names [] := by rw [← hce]; rfl
  have cS : ce.scope = scope := by rw [← hce]; rfl
  have cF : ce.frame = some ce.locals := by rw [← hce]; rfl
  have okG : (gX X s H A' ce fp).Ok := by
    refine ⟨I.ok.mod, ?_, ?_, ?_, ?_, fun y z c e1 e2 => ?_, fun y hy => ?_, fun y c z e => ?_, fun _ => hA, hF, .inr ⟨rfl, cF⟩, fun b hb => ⟨?_, fun y c e z => ?_⟩, I.bs, Nat.le_trans I.ok.bsz I.sz, fun b o e hb => ?_, fun b hb z => ?_, I.stack, I.stkFree⟩
    · show ce.scope.kind = _
      rw [cS]
      exact ok.kind
    · show ce.globals = _
      rw [← hce]
      exact I.ok.glob
    · show ce.builtins = _
      rw [← hce]
      rfl
    · show s.heap.objs.size ≤ ce.locals
      rw [cL]
      exact Nat.le_refl _
    · have e1 : ce.cells.lookup y = some c := e1
      have e2 : ce.cells.lookup z = some c := e2
      rw [cC] at e1 e2
      exact I.ok.inj y z c (cl e1).1 (cl e2).1
    · show ∃ c, ce.cells.lookup y = some c
      rw [cC]
      have hy : scope.names.lookup y = some .cell ∨ scope.names.lookup y = some .free := by
        have hy' : ce.scope.names.lookup y = some .cell ∨ ce.scope.names.lookup y = some .free := hy
        rw [cS] at hy'
        exact hy'
      rcases hy with k | k
      · exact absurd rfl (gk.nocell _ (PySem.mem_of_lookup k))
      · exact look k
    · exact absurd (show false = true from z) Bool.false_ne_true
    · show b ≠ ce.locals
      rw [cL]
      exact Nat.ne_of_lt (hfp b hb).2
    · have e : ce.cells.lookup y = some c := e
      rw [cC] at e
      exact (hfp b hb).1.2.2.2.2.1 y c (cl e).1 z
    · rcases (hfp b hb).1.2.2.2.1 with q | q
      · exact I.ok.noex b o e q
      · exact absurd (Nat.lt_of_lt_of_le (Heap.lt_size e) (Nat.le_trans I.ok.bsz q)) (Nat.lt_irrefl _)
    · rcases List.mem_cons.mp (I.stkSub b z) with q | q
      · exact (hfp b hb).1.2.1 q
      · exact (hfp b hb).1.2.2.1 q
  refine ⟨okG, rfl, hb5, Un.kept kp, ⟨m0, ?_, fun i y av e1 e2 e3 => ?_⟩, fun y c e => ?_, ?_, fun y c e => ?_, fun p hp => ?_, I.hok.kept kp, by rw [wipe_length]; exact I.len⟩
  · show Heap.Ns _ ce.locals _
    rw [cL]
    exact hn
  · obtain ⟨e2, hne⟩ := wipe_some e2
    have e3 : Vis ce.scope y := e3
    rw [cS] at e3
    have hfr : scope.names.lookup y = some .free := by
      have no : ∀ k, scope.names.lookup y = some k → ¬ (k = .local ∨ k = .cell) := fun k hk hh => by
        rcases ok.own _ (PySem.mem_of_lookup hk) hh with q | q
        · obtain ⟨p, hp, hpy⟩ := List.mem_map.mp q
          have e4 := ok.ix p hp
          have hpy : p.1 = y := hpy
          rw [hpy] at e4
          exact hne (List.mem_map.mpr ⟨p, hp, nodup_ix hN e4 e1⟩)
        · exact q (List.mem_of_getElem? e1)
      rcases e3 with e3 | e3 | e3
      · exact absurd (.inl rfl) (no _ e3)
      · exact absurd (.inr rfl) (no _ e3)
      · exact e3
    obtain ⟨m, _, hl⟩ := I.loc
    have hvis : Vis X.env.scope y := (ok.free _ (PySem.mem_of_lookup hfr) rfl).elim (fun k => .inr (.inl k)) fun k => .inr (.inr k)
    obtain ⟨w1, r1, q1⟩ := hl i y av e1 e2 hvis
    obtain ⟨c, hc⟩ := look hfr
    refine ⟨w1, r1, .inr ⟨.inr (by show ce.scope.names.lookup y = _; rw [cS]; exact hfr), c, by show ce.cells.lookup y = _; rw [cC]; exact hc, ?_⟩⟩
    rcases q1 with ⟨k, _⟩ | ⟨_, c', e', z⟩
    · have k : X.env.scope.names.lookup y = some .local := k
      rcases ok.free _ (PySem.mem_of_lookup hfr) rfl with k' | k' <;> (have k' : X.env.scope.names.lookup y = _ := k'; rw [k'] at k; cases k)
    · rw [(cl hc).1] at e'
      cases e'
      exact z.keeps kp
  · have e : ce.cells.lookup y = some c := e
    rw [cC] at e
    obtain ⟨w1, z1⟩ := I.cell y c (cl e).1
    exact ⟨w1, z1.keeps kp⟩
  · show H ce.locals = none
    rw [cL]
    exact I.hok.fresh (Nat.le_refl _)
  · have e : ce.cells.lookup y = some c := e
    rw [cC] at e
    exact I.freeC y c (cl e).1
  · have hp : p = (a, go) := by simpa using hp
    subst hp
    refine ⟨hgo, I.hok.fresh (Nat.le_of_lt ha), ?_, fun z => ?_, hgd⟩
    · show a ≠ ce.locals
      rw [cL]
      exact Nat.ne_of_gt ha
    · have z : a ∈ frs X.stack := z
      obtain ⟨_, o, ho, _⟩ := I.stack.mem z
      exact absurd (Nat.lt_trans (Heap.lt_size ho) ha) (Nat.lt_irrefl _)
end
/-! ### all(..), any(..) of a generator, told by what each turn does -/
/-- between a yield and the next turn -/
structure Rs (s s' : Shared) : Prop where
  heap : s'.heap = s.heap
  os : s'.os = s.os
  bare : AllBare s'.gens
  size : s.gens.size ≤ s'.gens.size
theorem inv_gens {X : Cx} {pins : List (Addr × Obj)} {σ : L2.St} {H : Hp} {s s' : Shared} (I : Inv X pins σ H s) (h1 : s'.heap = s.heap) (h2 : s'.os = s.os) (h3 : AllBare s'.gens) : Inv X pins σ H s' := by
  obtain ⟨hh, g, d, t, o⟩ := s'
  have e1 : hh = s.heap := h1
  have e2 : o = s.os := h2
  subst e1 e2
  exact ⟨I.ok, I.os, h3, I.base, I.loc, I.cell, I.free, I.freeC, I.pin, I.hok, I.len⟩
theorem Rs.inv {X : Cx} {pins : List (Addr × Obj)} {σ : L2.St} {H : Hp} {s s' : Shared} (r : Rs s s') (I : Inv X pins σ H s) : Inv X pins σ H s' := by
  obtain ⟨h1, h2, h3, _⟩ := r
  obtain ⟨hh, g, d, t, o⟩ := s'
  have e1 : hh = s.heap := h1
  have e2 : o = s.os := h2
  subst e1 e2
  exact ⟨I.ok, I.os, h3, I.base, I.loc, I.cell, I.free, I.freeC, I.pin, I.hok, I.len⟩
theorem bare_set {gens : Array GenState} (h : AllBare gens) {g : Nat} {x : GenState} (hx : x.bare = true) : AllBare (gens.setIfInBounds g x) := fun y hy => by
  obtain ⟨i, hi, rfl⟩ := Array.mem_iff_getElem.mp hy
  rw [Array.size_setIfInBounds] at hi
  rw [Array.getElem_setIfInBounds hi]
  split
  · exact hx
  · exact h _ (Array.getElem_mem hi)
theorem Rs.set {s : Shared} (hb : AllBare s.gens) {g : Nat} {x : GenState} (hx : x.bare = true) : Rs s (s.setGen g x) :=
  ⟨rfl, rfl, bare_set hb hx, Nat.le_of_eq (GenW.setGen_size s g x).symm⟩
theorem Rs.trans {s s1 s2 : Shared} (a : Rs s s1) (b : Rs s1 s2) : Rs s s2 := ⟨b.heap.trans a.heap, b.os.trans a.os, b.bare, Nat.le_trans a.size b.size⟩
/-- the protocol of a generator whose items are truths: T b: what holds where b comes out -/
def gY (gi : Nat) (a : Addr) (stop : Bool) (Fin : Shared → Prop) : Protocol := fun n s₀ v s kap =>
  ∃ b, v = .bool b ∧ s.heap.IsGen a gi ∧ s.heap.NoLimit ∧ AllBare s.gens ∧ gi < s.gens.size ∧ (b = stop → Fin s) ∧ (b ≠ stop → ∀ s', Rs s s' → kap (.send .none) s')
def gR (End : Shared → Prop) : Nat → Shared → Shared → Prop := fun _ _ s => AllBare s.gens ∧ End s
/-- the generator waits -/
def Waits (prog : Program) (w : World) (A : Around) (gi : Nat) (a : Addr) (stop : Bool) (End Fin : Shared → Prop) (n : Nat) (s : Shared) : Prop :=
  s.heap.IsGen a gi ∧ s.heap.NoLimit ∧ AllBare s.gens ∧ ∃ gs, s.gens[gi]? = some gs ∧
    ∀ s', Rs s s' → gs.Goes (model prog w) A.in1 (fun n s₀ r s₁ => r = .ok .next ∧ gR End n s₀ s₁) (gY gi a stop Fin) n (.send .none) s'
section
variable {prog : Program} {w : World} {A : Around} {gi : Nat} {a : Addr} {stop : Bool} {End Fin : Shared → Prop}
theorem waits_next {n : Nat} {s : Shared} {Q : Option Value → Shared → Prop} {E : Value → Shared → Prop} (hh : A.handled = none) (hroom : A.depth < recursionLimit)
    (hE : ∀ s s' : Shared, End s → s'.os = s.os → AllBare s'.gens → (∀ b o, s.heap.get? b = some o → s'.heap.get? b = some o) → End s')
    (hF : ∀ s s' : Shared, Fin s → s'.os = s.os → AllBare s'.gens → (∀ b o, s.heap.get? b = some o → s'.heap.get? b = some o) → Fin s')
    (W : Waits prog w A gi a stop End Fin n s) (hN : ∀ s', End s' → Q none s') (hS : ∀ s', Fin s' → Q (some (.bool stop)) s')
    (hG : ∀ s' m, m < n → Waits prog w A gi a stop End Fin m s' → Q (some (.bool (!stop))) s') : wpAny (model prog w) A (pyNext (.ref a)) Q E s := by
  obtain ⟨hg, hl, hb, gs, hgs, hgo⟩ := W
  refine wpAny_pyNext_genexpQ (P := gR End) (Y := gY gi a stop Fin) hh hl hroom hg hgs (hgo _ (Rs.set hb rfl)) (fun v s₁ gs' hb' hv => ?_) fun s₁ hp h' hk => ?_
  · obtain ⟨b, rfl, g1, l1, b1, z1, f1, k1⟩ := hv
    by_cases e : b = stop
    · subst e
      exact hS _ (hF _ _ (f1 rfl) rfl (bare_set b1 hb') fun _ _ q => q)
    · have eb : b = !stop := by cases b <;> cases stop <;> first | rfl | exact absurd rfl e
      subst eb
      cases n with
      | zero => exact False.elim (k1 e s₁ ⟨rfl, rfl, b1, Nat.le_refl _⟩)
      | succ m =>
        refine hG _ m (Nat.lt_succ_self m) ⟨g1, l1, bare_set b1 hb', gs', ?_, fun s' r => k1 e s' ((Rs.set b1 hb').trans r)⟩
        show (s₁.gens.setIfInBounds gi gs')[gi]? = some gs'
        rw [Array.getElem?_setIfInBounds_self_of_lt z1]
  · obtain ⟨b1, e1⟩ := hp
    exact hN _ (hE _ _ e1 rfl (bare_set b1 rfl) fun b o q => hk b o q)
end
section
variable {prog : Program} {w : World} {A : Around} {gi : Nat} {a : Addr} {End Fin : Shared → Prop}
theorem all_loop (hh : A.handled = none) (hroom : A.depth < recursionLimit)
    (hE : ∀ s s' : Shared, End s → s'.os = s.os → AllBare s'.gens → (∀ b o, s.heap.get? b = some o → s'.heap.get? b = some o) → End s')
    (hF : ∀ s s' : Shared, Fin s → s'.os = s.os → AllBare s'.gens → (∀ b o, s.heap.get? b = some o → s'.heap.get? b = some o) → Fin s') :
    ∀ (n : Nat) (s : Shared), Waits prog w A.in1 gi a false End Fin n s →
      codeAny (model prog w) A (.builtin "all.loop" ⟨[.ref a], []⟩) (fun r s' => (r = .ok (.ret (.bool true)) ∧ End s') ∨ (r = .ok (.ret (.bool false)) ∧ Fin s')) s := by
  intro n
  induction n using Nat.strongRecOn with
  | ind n ih =>
    intro s W
    refine codeAny_builtin PySem.F.entry_all_loop ?_
    rw [Around.under_plainId PySem.F.plain_all_loop]
    show wpAny (model prog w) A.in1 (pyNext (.ref a) >>= _) _ _ s
    refine wpAny_bind (waits_next (A := A.in1) hh hroom hE hF W (fun s' e => ?_) (fun s' e => ?_) fun s' m hm W' => ?_)
    · exact wpAny_bind (wpAny_rule (wpAny_pure (.inl ⟨rfl, e⟩)))
    · refine wpAny_bind (wpAny_holding (wpAny_truthy_bool ?_))
      refine wpAny_bind (wpAny_letGo ?_)
      exact wpAny_bind (wpAny_rule (wpAny_pure (.inr ⟨rfl, e⟩)))
    · refine wpAny_bind (wpAny_holding (wpAny_truthy_bool ?_))
      refine wpAny_bind (wpAny_letGo ?_)
      exact wpAny_pure ⟨plainId_quiet PySem.F.plain_all_loop _, ih m hm s' W'⟩
end
/-! ### all(elt for target in iter) -/
/-- the reading: W by the turn and a measure; P: the def's table, which may grow -/
def tAll (P : Addr) (wi : TI) (g : TG) (te : TE) (vs : List Nat) : TE := fun σ H Q => wi σ H fun J H1 => GxR.TabG H1 P ∧ ∃ W : Nat → Nat → Hp → Prop, (∀ H2, GxR.Tabbed P H1 H2 → ∃ m, W 0 m H2) ∧ ∀ i m H, W i m H →
  (J.stop i H ∧ Q (.bl true) H) ∨ (J.go i H ∧ ∃ Nx : Hp → Prop, (∀ H', Nx H' → ∃ m', m' < m ∧ W (i + 1) m' H') ∧ ∀ x H', J.yld i H x H' → g x (wipe σ vs) H' fun σ2 H2 => wipe σ2 vs = wipe σ vs ∧
    te σ2 H2 fun y H3 => ∃ b, y = .bl b ∧ if b = true then Nx H3 else Q (.bl false) H3)
section
variable {X : Cx}
theorem pe_all {k : Nat} {c P : Addr} {elt tg iter : Expr} {scope : Scope} {own : List (Str × Nat)} {p pos gpos : Pos} {wi : TI} {g : TG} {te : TE}
    (hr : Room (k + 1) X.A) (TB : GxR.TabB X.base X.mg c P) (hcode : X.env.code = .ref c) (hc : X.calm = true) (hN : X.N.Nodup) (hG : Gl X "all") (hM : X.mg "all" = none) (hi : PI X tg iter wi) (ok : BlkOk X.N X.env.scope scope own) (gk : GnOk scope) (hdN : (".0" : Str) ∉ X.N)
    (hg : ∀ (s : Shared) (H : Hp) (A' : Around) (C : Addr) (cl : List (Str × Addr)) (code : Value) (fp : List Addr), PG (gX X s H A' (genEnv scope cl C code builtinsNs X.env) fp) tg g)
    (he : ∀ (s : Shared) (H : Hp) (A' : Around) (C : Addr) (cl : List (Str × Addr)) (code : Value) (fp : List Addr), Room k A' → PE (gX X s H A' (genEnv scope cl C code builtinsNs X.env) fp) elt te)
    (hs : ∀ v, genFold iter X.env v = pure v := by intro _; rfl)
    (hst : starEach [.GeneratorExp elt [⟨tg, iter, [], 0⟩] scope gpos] X.env = (false, eval (.GeneratorExp elt [⟨tg, iter, [], 0⟩] scope gpos) X.env) :: starEach [] X.env := by rfl) :
    PE X (.Call (.Name "all" p) [.GeneratorExp elt [⟨tg, iter, [], 0⟩] scope gpos] [] pos) (tAll P wi g te (own.map (·.2))) := by
  refine ⟨fun pins s σ H Q I h => ?_⟩
  have hh : X.A.handled = none := hr.hd
  refine wpAny_Call_Name_kw (ld_blt I hG hM PyProof.Rows.boot_all ?_)
  refine PyProof.Rows.callWith_builtin1 ?_ hst (by rfl)
  rw [hst]
  show wpAny _ _ (spliced ((false, eval (.GeneratorExp elt [⟨tg, iter, [], 0⟩] scope gpos) X.env) :: backTo pos (starEach [] X.env))) _ _ s
  have hfree : ∀ y ∈ scope.names, y.2 = .free → ∃ c, X.env.cells.lookup y.1 = some c := fun y hy e =>
    (ok.free y hy e).elim (fun k => I.ok.has _ (.inl k)) fun k => I.ok.has _ (.inr k)
  refine Calls.spliced_cons (wpAny_GeneratorExp_make gk.co (closure_ok hfree) gk.nocell gk.dot ok.kind (by have := hr.dp; omega) (thn (hi.run pins s σ H _ I h) fun xv s1 hx => thn hx fun itv s2 h2 => ?_) hs)
  obtain ⟨it, fp, tn, J, H2, e, I2, T, st2, f2, ⟨ps, hP, ht⟩, W, w0, turn⟩ := h2
  subst e
  refine ⟨I2.nolimit, ?_⟩
  have hPs : s2.heap.get? P = some { cls := .none, data := .fields ps } := I2.hok P _ hP
  have cd : PySem.W.CodeHd s2.heap c P := TB.code.keeps fun b u e => I2.bk b u e
  have sz2 : ∀ b ∈ fp, b < s2.heap.objs.size := fun b hb => by
    obtain ⟨o, e, _⟩ := T.obj _ _ st2 b hb
    exact Heap.lt_size e
  have nfP : ∀ b ∈ fp, b ≠ P := fun b hb z => by
    have q := (f2 b hb).1
    rw [z, hP] at q
    cases q
  -- behind the table
  have cont : ∀ (code : Value) (h3 : Heap) (tk : Nat) (more : Array Value), s2.heap.objs.size ≤ h3.objs.size → (∀ b o, b ≠ P → s2.heap.get? b = some o → h3.get? b = some o) → h3.get? P = some { cls := .none, data := .fields (ps ++ more) } → TriplesOk (ps ++ more).toList →
      wpAny (model X.prog X.w) X.A (builtinsFor X.env.globals X.env.builtins) (fun bi s4 => ∀ h', h'.Ns s4.heap.objs.size (fun y => if y = ".0" then some (.ref it) else none) → Heap.SameBut s4.heap.objs.size (s4.heap.push { cls := .type "frame", data := .dict #[] }) h' →
        wpAny (model X.prog X.w) X.A (spliced (backTo pos (starEach [] X.env))) (fun vs s5 => wpAny (model X.prog X.w) X.A (call (.builtin "all") (.ref h'.objs.size :: vs)) (EP X pins σ Q) X.xe s5) X.xe { s4 with
            gens := s4.gens.push (.fresh (.compStart (.GeneratorExp elt [⟨tg, iter, [], 0⟩] scope gpos) 0 (.ref it) .none (genEnv scope (cloFrom X.env.cells scope.names []) s4.heap.objs.size code bi X.env))), toks := s4.toks + 1 + 1 + 1,
            heap := h'.push { cls := .type "generator", data := .fields #[.int s4.gens.size 0, .str "<genexpr>" (s4.toks + 1), .str (X.env.qual ++ "<genexpr>") (s4.toks + 1 + 1)] } }) X.xe { s2 with heap := h3, toks := tk } := by
    intro code h3 tk more hle3 hk3 hP3 ht3
    have I3 : Inv X pins σ (upd H2 P (.tbl (ps ++ more))) { s2 with heap := h3, gens := s2.gens, drawn := s2.drawn, toks := tk } := GxR.inv_tab I2 hP hk3 hP3 I2.bare
    have tab3 : GxR.Tabbed P H2 (upd H2 P (.tbl (ps ++ more))) := ⟨⟨_, upd_same, ht3⟩, fun b hb => upd_ne hb⟩
    have st3 : tn 0 h3 := T.keep _ _ _ st2 fun b hb o e => hk3 b o (nfP b hb) e
    have f3 : ∀ b ∈ fp, FpOk X pins (upd H2 P (.tbl (ps ++ more))) b := fun b hb => ⟨by rw [upd_ne (nfP b hb)]; exact (f2 b hb).1, (f2 b hb).2⟩
    generalize upd H2 P (.tbl (ps ++ more)) = H3 at I3 tab3 f3
    obtain ⟨m0, hw0⟩ := w0 H3 tab3
    have sz3 : ∀ b ∈ fp, b < h3.objs.size := fun b hb => Nat.lt_of_lt_of_le (sz2 b hb) hle3
    have hs3 : ({ s2 with heap := h3, gens := s2.gens, drawn := s2.drawn, toks := tk } : Shared) = { s2 with heap := h3, toks := tk } := rfl
    rw [hs3] at I3
    generalize hsh : ({ s2 with heap := h3, toks := tk } : Shared) = s3 at I3 ⊢
    have eh : h3 = s3.heap := by rw [← hsh]
    rw [eh] at st3 sz3
    clear hsh hs3 eh hP3 hk3 hle3
    obtain ⟨bm, ob, e1, e2, e3, e4, e5, e6, e7, e8⟩ := TB.bm
    refine wpAny_builtinsFor (m := X.mg) (by rw [I3.ok.glob]; exact I3.mod.glob.keeps I3.bk) e1 e2 (I3.bk _ _ e5) e6 e7 e8 ?_
    intro h' hn' hs'
    refine Calls.spliced_nil ?_
    have hsz : h'.objs.size = s3.heap.objs.size + 1 := by rw [hs'.1, Heap.size_push]
    generalize hgo : ({ cls := .type "generator", data := .fields #[.int s3.gens.size 0, .str "<genexpr>" (s3.toks + 1), .str (X.env.qual ++ "<genexpr>") (s3.toks + 1 + 1)] } : Obj) = go
    have kp5 : ∀ b o, s3.heap.get? b = some o → (h'.push go).get? b = some o := fun b o e => Heap.get?_push_of_some _ (hs'.extBut b o (Nat.ne_of_lt (Heap.lt_size e)) (Heap.get?_push_of_some _ e))
    generalize hce : genEnv scope (cloFrom X.env.cells scope.names []) s3.heap.objs.size code builtinsNs X.env = ce
    have hhA : (X.A.in1.in1.over (.compLoop (.GeneratorExp elt [⟨tg, iter, [], 0⟩] scope gpos) 0 (.ref it) .none ce) []).handled = none := hh
    have hFr : (X.A.in1.in1.over (.compLoop (.GeneratorExp elt [⟨tg, iter, [], 0⟩] scope gpos) 0 (.ref it) .none ce) []).frames = some (ce :: X.stack) := by
      show pushEnvs [ce] (pushEnvs [] X.A.frames) = _
      rw [I3.ok.frames]
      rfl
    have hRm : Room k (X.A.in1.in1.over (.compLoop (.GeneratorExp elt [⟨tg, iter, [], 0⟩] scope gpos) 0 (.ref it) .none ce) []) := by
      have z1 := hr.dp
      have z2 := hr.un
      refine ⟨hhA, ?_, ?_⟩
      · show X.A.depth + 0 + 1 + 3 * k + 5 < recursionLimit
        omega
      · show X.A.units + 1 + 1 + 0 + 3 + 16 * k + 200 < cLine
        omega
    generalize hAg : X.A.in1.in1.over (.compLoop (.GeneratorExp elt [⟨tg, iter, [], 0⟩] scope gpos) 0 (.ref it) .none ce) [] = Ag at hhA hFr hRm
    have I5 : Inv (gX X s3 H3 Ag ce fp) [(h'.objs.size, go)] (wipe σ (own.map (·.2))) H3 { s3 with heap := h'.push go, gens := s3.gens.push (.fresh (.compStart (.GeneratorExp elt [⟨tg, iter, [], 0⟩] scope gpos) 0 (.ref it) .none ce)), toks := s3.toks + 1 + 1 + 1 } := by
      have q := gen_start (code := code) (A' := Ag) (h5 := h'.push go) (g5 := s3.gens.push (.fresh (.compStart (.GeneratorExp elt [⟨tg, iter, [], 0⟩] scope gpos) 0 (.ref it) .none ce))) (t5 := s3.toks + 1 + 1 + 1) (go := go) I3 ok gk hN (fun b hb => ⟨f3 b hb, sz3 b hb⟩) hhA (by rw [hce]; exact hFr) kp5 (hn'.push _)
        (fun x hx => if_neg hx) hdN (I3.bare.push rfl) (a := h'.objs.size) (by omega) (Heap.get?_push_size _ (by rw [← hgo]; rfl)) (by rw [← hgo]; intro v z; cases z)
      rw [hce] at q
      exact q
    have st5 : tn 0 (h'.push go) := T.keep _ _ _ st3 fun b _ o e => kp5 b o e
    have nfp : ∀ b ∈ fp, H3 b = none := fun b hb => (f3 b hb).1
    have pg := hg s3 H3 Ag s3.heap.objs.size (cloFrom X.env.cells scope.names []) code fp
    have pe := he s3 H3 Ag s3.heap.objs.size (cloFrom X.env.cells scope.names []) code fp hRm
    rw [hce] at pg pe
    have cCo : ce.scope.isCoroutine = false := by rw [← hce]; exact gk.co
    clear hn' hs' kp5 w0 hce
    -- back in the def's context
    have back : ∀ {σ' : L2.St} {H' : Hp} {s' : Shared} {pl : List (Addr × Obj)}, Inv (gX X s3 H3 Ag ce fp) pl σ' H' s' → Inv X pins σ H' s' := fun {σ' H' s' pl} J => I3.call' (ch := fp) J.os J.base J.hok J.bare fun b hb =>
      ⟨(f3 b hb).2.2.2.1, (f3 b hb).2.1, (f3 b hb).2.2.2.2.1, (f3 b hb).2.2.2.2.2⟩
    have stat : ∀ {σ' : L2.St} {H' : Hp} {s' : Shared}, Inv (gX X s3 H3 Ag ce fp) [(h'.objs.size, go)] σ' H' s' → (∀ b ∈ fp, H' b = none) → ∀ b ∈ fp, FpOk (gX X s3 H3 Ag ce fp) [(h'.objs.size, go)] H' b := fun {σ' H' s'} J hn b hb =>
      ⟨hn b hb, (J.ok.exf b hb).1, J.ok.exfs b hb, .inl hb, fun x c e => (J.ok.exf b hb).2 x c e, fun p hp => by
        have hp : p = (h'.objs.size, go) := by simpa using hp
        rw [hp]
        exact Nat.ne_of_gt (Nat.lt_trans (sz3 b hb) (by rw [hsz]; exact Nat.lt_succ_self _))⟩
    have gen : ∀ {σ' : L2.St} {H' : Hp} {s' : Shared} {pl : List (Addr × Obj)}, Inv (gX X s3 H3 Ag ce fp) ([(h'.objs.size, go)] ++ pl) σ' H' s' → s'.heap.IsGen h'.objs.size s3.gens.size := fun {σ' H' s' pl} J => by
      have q := (J.pin (h'.objs.size, go) (by simp)).1
      exact ⟨go, _, _, q, by rw [← hgo], by rw [← hgo], by rw [← hgo]⟩
    -- the turns
    have loop : ∀ (m n i : Nat) (s₀ s : Shared) (H : Hp), m < n → W i m H → Inv (gX X s3 H3 Ag ce fp) [(h'.objs.size, go)] (wipe σ (own.map (·.2))) H s → tn i s.heap → (∀ b ∈ fp, H b = none) → s3.gens.size + 1 ≤ s.gens.size →
        Seg (model X.prog X.w) X.A.in1.in1 (fun n s₀ r s₁ => r = .ok .next ∧ gR (fun s => ∃ H', Inv X pins σ H' s ∧ Q (.bl true) H') n s₀ s₁) (gY s3.gens.size h'.objs.size false fun s => ∃ H', Inv X pins σ H' s ∧ Q (.bl false) H') n s₀
          (.compLoop (.GeneratorExp elt [⟨tg, iter, [], 0⟩] scope gpos) 0 (.ref it) .none ce) ((model X.prog X.w).den (.compLoop (.GeneratorExp elt [⟨tg, iter, [], 0⟩] scope gpos) 0 (.ref it) .none ce)) [] s := by
      intro m
      induction m using Nat.strongRecOn with
      | ind m ih =>
        intro n i s₀ s H hmn w J st nf hz
        show Seg (model X.prog X.w) _ _ _ n s₀ _ ((compTurn (.GeneratorExp elt [⟨tg, iter, [], 0⟩] scope gpos) 0 (.ref it) .none ce).onRaise (leaving ce)) [] s
        rw [compTurn_gen]
        rw [Sem.onRaise_eq_wrap]
        refine seg_bind_wrap (wpAny_standAt (seg_bind_wrap ?_))
        rw [hAg]
        rcases turn i m H w with ⟨stp, qq⟩ | ⟨go', Nx, hNx, step⟩
        · refine thnF (T.done (gX X s3 H3 Ag ce fp) rfl rfl rfl hc i _ s _ H (fun _ _ => False) J (stat J nf) st stp) fun r s6 ⟨hr6, J6⟩ => ?_
          subst hr6
          exact seg_end (.ok .next) ⟨rfl, J6.bare, H, back J6, qq⟩
        · refine GenW.wpAny_gsz hz (thnF (T.item (gX X s3 H3 Ag ce fp) rfl rfl rfl hc i _ s _ H (fun _ _ => False) J (stat J nf) st go') fun r s6 ⟨u, hr6, h6⟩ hz6 => ?_)
          subst hr6
          refine seg_bind_wrap ?_
          rw [hAg]
          refine GenW.wpAny_gsz hz6 (thnF h6 fun _ s7 ⟨x, H7, J7, r7, y7, st7, n7⟩ hz7 => ?_)
          have J7' := J7.pinned (stat J7 n7) (T.obj _ _ st7)
          refine seg_bind_wrap ?_
          rw [hAg]
          refine GenW.wpAny_gsz hz7 (thnF (pg.run _ s7 _ H7 x u _ J7' r7 (step x H7 y7)) fun _ s8 ⟨σ8, H8, J8, hw8, q8⟩ hz8 => ?_)
          simp only [List.forIn_nil]
          refine seg_bind_wrap (wpAny_pure ?_)
          simp only [if_true]
          have hy : ∀ v, yieldOut ce v = yieldValue v := fun v => by simp only [yieldOut, cCo, Bool.false_eq_true, if_false]
          simp only [hy]
          rw [Sem.bind_eq_wrap', Sem.bind_eq_wrap']
          rw [Sem.wrap_wrap, Sem.wrap_wrap]
          refine seg_wrap ?_
          rw [hAg]
          refine GenW.wpAny_gsz hz8 (thnF (pe.run _ s8 σ8 H8 _ J8 q8) fun z s9 ⟨yv, H9, J9, r9, b, eb, qb⟩ hz9 => ?_)
          subst eb
          obtain rfl : z = Value.bool b := r9
          obtain ⟨n', rfl⟩ : ∃ n', n = n' + 1 := ⟨n - 1, by omega⟩
          refine seg_at (seg_yield rfl rfl rfl ⟨b, rfl, gen J9, J9.nolimit, J9.bare, hz9, fun e => ?_, fun e s' r => ?_⟩)
          · subst e
            exact ⟨H9, back J9, qb⟩
          · have e : b = true := by
              cases b with
              | true => rfl
              | false => exact absurd rfl e
            subst e
            rw [if_pos rfl] at qb
            obtain ⟨m', hm', w'⟩ := hNx H9 qb
            have pin' : ∀ b ∈ fp, ∀ o, s7.heap.get? b = some o → s9.heap.get? b = some o ∧ H9 b = none := fun b hb o e =>
              let z := J9.pin (b, o) (List.mem_append_right _ (List.mem_append_right _ (mem_pinsAt hb e)))
              ⟨z.1, z.2.1⟩
            have hl : (wipe σ (own.map (·.2))).length = σ8.length := by rw [← hw8, wipe_length]
            have K9 : Inv (gX X s3 H3 Ag ce fp) [(h'.objs.size, go)] (wipe σ (own.map (·.2))) H9 s9 := J9.unpinned.weak hl fun j v e => by
              rw [← hw8] at e
              exact (wipe_some e).1
            refine seg_again rfl (ih m' hm' n' (i + 1) s' s' H9 (by omega) w' (r.inv K9) ?_ (fun b hb => ?_) (Nat.le_trans hz9 r.size))
            · rw [r.heap]
              exact T.keep _ _ _ st7 fun b hb o e => (pin' b hb o e).1
            · obtain ⟨o, e, _⟩ := T.obj _ _ st7 b hb
              exact (pin' b hb o e).2
    have mono : ∀ (b : Bool) (s s' : Shared), (∃ H', Inv X pins σ H' s ∧ Q (.bl b) H') → s'.os = s.os → AllBare s'.gens → (∀ b o, s.heap.get? b = some o → s'.heap.get? b = some o) → ∃ H', Inv X pins σ H' s' ∧ Q (.bl b) H' := fun b s s' ⟨H', J, q⟩ h1 h2 h3 =>
      ⟨H', inv_gens (J.kept (t' := s'.toks) h3) rfl h1 h2, q⟩
    generalize hs5 : ({ s3 with heap := h'.push go, gens := s3.gens.push (.fresh (.compStart (.GeneratorExp elt [⟨tg, iter, [], 0⟩] scope gpos) 0 (.ref it) .none ce)), toks := s3.toks + 1 + 1 + 1 } : Shared) = s5 at I5
    have hg5 : s5.gens[s3.gens.size]? = some (.fresh (.compStart (.GeneratorExp elt [⟨tg, iter, [], 0⟩] scope gpos) 0 (.ref it) .none ce)) := by
      rw [← hs5]
      exact Array.getElem?_push_size ..
    have hz5 : s3.gens.size + 1 ≤ s5.gens.size := by
      rw [← hs5]
      exact Nat.le_of_eq (Array.size_push ..).symm
    have ht5 : tn 0 s5.heap := by rw [← hs5]; exact st5
    have wt : Waits X.prog X.w X.A.in1 s3.gens.size h'.objs.size false (fun s => ∃ H', Inv X pins σ H' s ∧ Q (.bl true) H') (fun s => ∃ H', Inv X pins σ H' s ∧ Q (.bl false) H') (m0 + 1) s5 := by
      refine ⟨gen (pl := []) I5, I5.nolimit, I5.bare, _, hg5, fun s' r => ⟨rfl, ?_⟩⟩
      have lp := loop m0 (m0 + 1) 0 s' s' H3 (Nat.lt_succ_self _) hw0 (r.inv I5) (by rw [r.heap]; exact ht5) nfp (Nat.le_trans hz5 r.size)
      show Seg (model X.prog X.w) _ _ _ _ s' _ ((compStart (.GeneratorExp elt [⟨tg, iter, [], 0⟩] scope gpos) 0 (.ref it) .none ce).onRaise (leaving ce)) [] s'
      unfold compStart
      rw [Sem.onRaise_eq_wrap]
      show Seg (model X.prog X.w) _ _ _ _ s' _ ((ask >>= _).wrap _ _ _ _) [] s'
      refine seg_bind_wrap (wpAny_askSetting ?_)
      have ts : tn 0 s'.heap := by rw [r.heap]; exact ht5
      split
      · exact seg_again rfl lp
      · first
          | exact seg_bind_wrap (wpAny_rule (seg_bind_wrap (wpAny_standAt (seg_bind_wrap (T.self _ 0 s' _ _ ts (seg_again rfl lp))))))
          | (refine seg_bind_wrap (wpAny_rule ?_); show Seg (model X.prog X.w) _ _ _ _ s' _ ((standAt iter.pos >>= _).wrap _ _ _ _) [] s'; exact seg_bind_wrap (wpAny_standAt (seg_bind_wrap (T.self _ 0 s' _ _ ts (seg_again rfl lp)))))
    refine call_function_tree PySem.F.kind_all PySem.F.plain_all PySem.F.entry_all (PySem.F.args_all1 _) ?_
    unfold Builtin.«all»
    refine wpAny_bind (m := oneArg "all" _) (wpAny_pure ?_)
    refine wpAny_bind (wpAny_pyIter_gen (gen (pl := []) I5) ?_)
    refine wpAny_pure ⟨plainId_quiet PySem.F.plain_all_loop _, codeAny_mono (all_loop hh hr.depth (mono true) (mono false) (m0 + 1) s5 wt) fun r s' hq => ?_⟩
    rcases hq with ⟨rfl, H', J, q⟩ | ⟨rfl, H', J, q⟩
    · exact ⟨.bl true, H', J, rfl, q⟩
    · exact ⟨.bl false, H', J, rfl, q⟩
  cases hf : codeAmong gpos ps.toList with
  | none =>
    refine wpAny_genexprCodeX hcode (cd.code hPs ht) (cd.tab hPs) hf fun c' h' tk hx hge hlt hco' _ htab' _ => ?_
    obtain ⟨o1, vs, f1, tf, fl, tg1, inF, tx, tt, op, _, _, _, _, _, _, _, _, _, htr, _⟩ := hco'
    exact cont _ h' tk _ (Nat.le_trans hge (Nat.le_of_lt hlt)) (fun b o hb e => hx b o hb e) htab'.2 htr
  | some cv =>
    refine wpAny_genexprCode_hit hcode (cd.code hPs ht) hf ?_
    have := cont cv s2.heap s2.toks #[] (Nat.le_refl _) (fun _ _ _ e => e) (by rw [hPs]; simp) (by simpa using ht)
    exact this
end
section
variable {prog : Program} {w : World} {A : Around} {gi : Nat} {a : Addr} {End Fin : Shared → Prop}
theorem any_loop (hh : A.handled = none) (hroom : A.depth < recursionLimit)
    (hE : ∀ s s' : Shared, End s → s'.os = s.os → AllBare s'.gens → (∀ b o, s.heap.get? b = some o → s'.heap.get? b = some o) → End s')
    (hF : ∀ s s' : Shared, Fin s → s'.os = s.os → AllBare s'.gens → (∀ b o, s.heap.get? b = some o → s'.heap.get? b = some o) → Fin s') :
    ∀ (n : Nat) (s : Shared), Waits prog w A.in1 gi a true End Fin n s →
      codeAny (model prog w) A (.builtin "any.loop" ⟨[.ref a], []⟩) (fun r s' => (r = .ok (.ret (.bool false)) ∧ End s') ∨ (r = .ok (.ret (.bool true)) ∧ Fin s')) s := by
  intro n
  induction n using Nat.strongRecOn with
  | ind n ih =>
    intro s W
    refine codeAny_builtin PySem.F.entry_any_loop ?_
    rw [Around.under_plainId PySem.F.plain_any_loop]
    show wpAny (model prog w) A.in1 (pyNext (.ref a) >>= _) _ _ s
    refine wpAny_bind (waits_next (A := A.in1) hh hroom hE hF W (fun s' e => ?_) (fun s' e => ?_) fun s' m hm W' => ?_)
    · exact wpAny_bind (wpAny_rule (wpAny_pure (.inl ⟨rfl, e⟩)))
    · refine wpAny_bind (wpAny_holding (wpAny_truthy_bool ?_))
      refine wpAny_bind (wpAny_letGo ?_)
      exact wpAny_bind (wpAny_rule (wpAny_pure (.inr ⟨rfl, e⟩)))
    · refine wpAny_bind (wpAny_holding (wpAny_truthy_bool ?_))
      refine wpAny_bind (wpAny_letGo ?_)
      exact wpAny_pure ⟨plainId_quiet PySem.F.plain_any_loop _, ih m hm s' W'⟩
end

/-! ### any(elt for target in iter) -/
/-- the reading: W by the turn and a measure; P: the def's table, which may grow -/
def tAny (P : Addr) (wi : TI) (g : TG) (te : TE) (vs : List Nat) : TE := fun σ H Q => wi σ H fun J H1 => GxR.TabG H1 P ∧ ∃ W : Nat → Nat → Hp → Prop, (∀ H2, GxR.Tabbed P H1 H2 → ∃ m, W 0 m H2) ∧ ∀ i m H, W i m H →
  (J.stop i H ∧ Q (.bl false) H) ∨ (J.go i H ∧ ∃ Nx : Hp → Prop, (∀ H', Nx H' → ∃ m', m' < m ∧ W (i + 1) m' H') ∧ ∀ x H', J.yld i H x H' → g x (wipe σ vs) H' fun σ2 H2 => wipe σ2 vs = wipe σ vs ∧
    te σ2 H2 fun y H3 => ∃ b, y = .bl b ∧ if b = false then Nx H3 else Q (.bl true) H3)
section
variable {X : Cx}
theorem pe_any {k : Nat} {c P : Addr} {elt tg iter : Expr} {scope : Scope} {own : List (Str × Nat)} {p pos gpos : Pos} {wi : TI} {g : TG} {te : TE}
    (hr : Room (k + 1) X.A) (TB : GxR.TabB X.base X.mg c P) (hcode : X.env.code = .ref c) (hc : X.calm = true) (hN : X.N.Nodup) (hG : Gl X "any") (hM : X.mg "any" = none) (hi : PI X tg iter wi) (ok : BlkOk X.N X.env.scope scope own) (gk : GnOk scope) (hdN : (".0" : Str) ∉ X.N)
    (hg : ∀ (s : Shared) (H : Hp) (A' : Around) (C : Addr) (cl : List (Str × Addr)) (code : Value) (fp : List Addr), PG (gX X s H A' (genEnv scope cl C code builtinsNs X.env) fp) tg g)
    (he : ∀ (s : Shared) (H : Hp) (A' : Around) (C : Addr) (cl : List (Str × Addr)) (code : Value) (fp : List Addr), Room k A' → PE (gX X s H A' (genEnv scope cl C code builtinsNs X.env) fp) elt te)
    (hs : ∀ v, genFold iter X.env v = pure v := by intro _; rfl)
    (hst : starEach [.GeneratorExp elt [⟨tg, iter, [], 0⟩] scope gpos] X.env = (false, eval (.GeneratorExp elt [⟨tg, iter, [], 0⟩] scope gpos) X.env) :: starEach [] X.env := by rfl) :
    PE X (.Call (.Name "any" p) [.GeneratorExp elt [⟨tg, iter, [], 0⟩] scope gpos] [] pos) (tAny P wi g te (own.map (·.2))) := by
  refine ⟨fun pins s σ H Q I h => ?_⟩
  have hh : X.A.handled = none := hr.hd
  refine wpAny_Call_Name_kw (ld_blt I hG hM PyProof.Rows.boot_any ?_)
  refine PyProof.Rows.callWith_builtin1 ?_ hst (by rfl)
  rw [hst]
  show wpAny _ _ (spliced ((false, eval (.GeneratorExp elt [⟨tg, iter, [], 0⟩] scope gpos) X.env) :: backTo pos (starEach [] X.env))) _ _ s
  have hfree : ∀ y ∈ scope.names, y.2 = .free → ∃ c, X.env.cells.lookup y.1 = some c := fun y hy e =>
    (ok.free y hy e).elim (fun k => I.ok.has _ (.inl k)) fun k => I.ok.has _ (.inr k)
  refine Calls.spliced_cons (wpAny_GeneratorExp_make gk.co (closure_ok hfree) gk.nocell gk.dot ok.kind (by have := hr.dp; omega) (thn (hi.run pins s σ H _ I h) fun xv s1 hx => thn hx fun itv s2 h2 => ?_) hs)
  obtain ⟨it, fp, tn, J, H2, e, I2, T, st2, f2, ⟨ps, hP, ht⟩, W, w0, turn⟩ := h2
  subst e
  refine ⟨I2.nolimit, ?_⟩
  have hPs : s2.heap.get? P = some { cls := .none, data := .fields ps } := I2.hok P _ hP
  have cd : PySem.W.CodeHd s2.heap c P := TB.code.keeps fun b u e => I2.bk b u e
  have sz2 : ∀ b ∈ fp, b < s2.heap.objs.size := fun b hb => by
    obtain ⟨o, e, _⟩ := T.obj _ _ st2 b hb
    exact Heap.lt_size e
  have nfP : ∀ b ∈ fp, b ≠ P := fun b hb z => by
    have q := (f2 b hb).1
    rw [z, hP] at q
    cases q
  -- behind the table
  have cont : ∀ (code : Value) (h3 : Heap) (tk : Nat) (more : Array Value), s2.heap.objs.size ≤ h3.objs.size → (∀ b o, b ≠ P → s2.heap.get? b = some o → h3.get? b = some o) → h3.get? P = some { cls := .none, data := .fields (ps ++ more) } → TriplesOk (ps ++ more).toList →
      wpAny (model X.prog X.w) X.A (builtinsFor X.env.globals X.env.builtins) (fun bi s4 => ∀ h', h'.Ns s4.heap.objs.size (fun y => if y = ".0" then some (.ref it) else none) → Heap.SameBut s4.heap.objs.size (s4.heap.push { cls := .type "frame", data := .dict #[] }) h' →
        wpAny (model X.prog X.w) X.A (spliced (backTo pos (starEach [] X.env))) (fun vs s5 => wpAny (model X.prog X.w) X.A (call (.builtin "any") (.ref h'.objs.size :: vs)) (EP X pins σ Q) X.xe s5) X.xe { s4 with
            gens := s4.gens.push (.fresh (.compStart (.GeneratorExp elt [⟨tg, iter, [], 0⟩] scope gpos) 0 (.ref it) .none (genEnv scope (cloFrom X.env.cells scope.names []) s4.heap.objs.size code bi X.env))), toks := s4.toks + 1 + 1 + 1,
            heap := h'.push { cls := .type "generator", data := .fields #[.int s4.gens.size 0, .str "<genexpr>" (s4.toks + 1), .str (X.env.qual ++ "<genexpr>") (s4.toks + 1 + 1)] } }) X.xe { s2 with heap := h3, toks := tk } := by
    intro code h3 tk more hle3 hk3 hP3 ht3
    have I3 : Inv X pins σ (upd H2 P (.tbl (ps ++ more))) { s2 with heap := h3, gens := s2.gens, drawn := s2.drawn, toks := tk } := GxR.inv_tab I2 hP hk3 hP3 I2.bare
    have tab3 : GxR.Tabbed P H2 (upd H2 P (.tbl (ps ++ more))) := ⟨⟨_, upd_same, ht3⟩, fun b hb => upd_ne hb⟩
    have st3 : tn 0 h3 := T.keep _ _ _ st2 fun b hb o e => hk3 b o (nfP b hb) e
    have f3 : ∀ b ∈ fp, FpOk X pins (upd H2 P (.tbl (ps ++ more))) b := fun b hb => ⟨by rw [upd_ne (nfP b hb)]; exact (f2 b hb).1, (f2 b hb).2⟩
    generalize upd H2 P (.tbl (ps ++ more)) = H3 at I3 tab3 f3
    obtain ⟨m0, hw0⟩ := w0 H3 tab3
    have sz3 : ∀ b ∈ fp, b < h3.objs.size := fun b hb => Nat.lt_of_lt_of_le (sz2 b hb) hle3
    have hs3 : ({ s2 with heap := h3, gens := s2.gens, drawn := s2.drawn, toks := tk } : Shared) = { s2 with heap := h3, toks := tk } := rfl
    rw [hs3] at I3
    generalize hsh : ({ s2 with heap := h3, toks := tk } : Shared) = s3 at I3 ⊢
    have eh : h3 = s3.heap := by rw [← hsh]
    rw [eh] at st3 sz3
    clear hsh hs3 eh hP3 hk3 hle3
    obtain ⟨bm, ob, e1, e2, e3, e4, e5, e6, e7, e8⟩ := TB.bm
    refine wpAny_builtinsFor (m := X.mg) (by rw [I3.ok.glob]; exact I3.mod.glob.keeps I3.bk) e1 e2 (I3.bk _ _ e5) e6 e7 e8 ?_
    intro h' hn' hs'
    refine Calls.spliced_nil ?_
    have hsz : h'.objs.size = s3.heap.objs.size + 1 := by rw [hs'.1, Heap.size_push]
    generalize hgo : ({ cls := .type "generator", data := .fields #[.int s3.gens.size 0, .str "<genexpr>" (s3.toks + 1), .str (X.env.qual ++ "<genexpr>") (s3.toks + 1 + 1)] } : Obj) = go
    have kp5 : ∀ b o, s3.heap.get? b = some o → (h'.push go).get? b = some o := fun b o e => Heap.get?_push_of_some _ (hs'.extBut b o (Nat.ne_of_lt (Heap.lt_size e)) (Heap.get?_push_of_some _ e))
    generalize hce : genEnv scope (cloFrom X.env.cells scope.names []) s3.heap.objs.size code builtinsNs X.env = ce
    have hhA : (X.A.in1.in1.over (.compLoop (.GeneratorExp elt [⟨tg, iter, [], 0⟩] scope gpos) 0 (.ref it) .none ce) []).handled = none := hh
    have hFr : (X.A.in1.in1.over (.compLoop (.GeneratorExp elt [⟨tg, iter, [], 0⟩] scope gpos) 0 (.ref it) .none ce) []).frames = some (ce :: X.stack) := by
      show pushEnvs [ce] (pushEnvs [] X.A.frames) = _
      rw [I3.ok.frames]
      rfl
    have hRm : Room k (X.A.in1.in1.over (.compLoop (.GeneratorExp elt [⟨tg, iter, [], 0⟩] scope gpos) 0 (.ref it) .none ce) []) := by
      have z1 := hr.dp
      have z2 := hr.un
      refine ⟨hhA, ?_, ?_⟩
      · show X.A.depth + 0 + 1 + 3 * k + 5 < recursionLimit
        omega
      · show X.A.units + 1 + 1 + 0 + 3 + 16 * k + 200 < cLine
        omega
    generalize hAg : X.A.in1.in1.over (.compLoop (.GeneratorExp elt [⟨tg, iter, [], 0⟩] scope gpos) 0 (.ref it) .none ce) [] = Ag at hhA hFr hRm
    have I5 : Inv (gX X s3 H3 Ag ce fp) [(h'.objs.size, go)] (wipe σ (own.map (·.2))) H3 { s3 with heap := h'.push go, gens := s3.gens.push (.fresh (.compStart (.GeneratorExp elt [⟨tg, iter, [], 0⟩] scope gpos) 0 (.ref it) .none ce)), toks := s3.toks + 1 + 1 + 1 } := by
      have q := gen_start (code := code) (A' := Ag) (h5 := h'.push go) (g5 := s3.gens.push (.fresh (.compStart (.GeneratorExp elt [⟨tg, iter, [], 0⟩] scope gpos) 0 (.ref it) .none ce))) (t5 := s3.toks + 1 + 1 + 1) (go := go) I3 ok gk hN (fun b hb => ⟨f3 b hb, sz3 b hb⟩) hhA (by rw [hce]; exact hFr) kp5 (hn'.push _)
        (fun x hx => if_neg hx) hdN (I3.bare.push rfl) (a := h'.objs.size) (by omega) (Heap.get?_push_size _ (by rw [← hgo]; rfl)) (by rw [← hgo]; intro v z; cases z)
      rw [hce] at q
      exact q
    have st5 : tn 0 (h'.push go) := T.keep _ _ _ st3 fun b _ o e => kp5 b o e
    have nfp : ∀ b ∈ fp, H3 b = none := fun b hb => (f3 b hb).1
    have pg := hg s3 H3 Ag s3.heap.objs.size (cloFrom X.env.cells scope.names []) code fp
    have pe := he s3 H3 Ag s3.heap.objs.size (cloFrom X.env.cells scope.names []) code fp hRm
    rw [hce] at pg pe
    have cCo : ce.scope.isCoroutine = false := by rw [← hce]; exact gk.co
    clear hn' hs' kp5 w0 hce
    -- back in the def's context
    have back : ∀ {σ' : L2.St} {H' : Hp} {s' : Shared} {pl : List (Addr × Obj)}, Inv (gX X s3 H3 Ag ce fp) pl σ' H' s' → Inv X pins σ H' s' := fun {σ' H' s' pl} J => I3.call' (ch := fp) J.os J.base J.hok J.bare fun b hb =>
      ⟨(f3 b hb).2.2.2.1, (f3 b hb).2.1, (f3 b hb).2.2.2.2.1, (f3 b hb).2.2.2.2.2⟩
    have stat : ∀ {σ' : L2.St} {H' : Hp} {s' : Shared}, Inv (gX X s3 H3 Ag ce fp) [(h'.objs.size, go)] σ' H' s' → (∀ b ∈ fp, H' b = none) → ∀ b ∈ fp, FpOk (gX X s3 H3 Ag ce fp) [(h'.objs.size, go)] H' b := fun {σ' H' s'} J hn b hb =>
      ⟨hn b hb, (J.ok.exf b hb).1, J.ok.exfs b hb, .inl hb, fun x c e => (J.ok.exf b hb).2 x c e, fun p hp => by
        have hp : p = (h'.objs.size, go) := by simpa using hp
        rw [hp]
        exact Nat.ne_of_gt (Nat.lt_trans (sz3 b hb) (by rw [hsz]; exact Nat.lt_succ_self _))⟩
    have gen : ∀ {σ' : L2.St} {H' : Hp} {s' : Shared} {pl : List (Addr × Obj)}, Inv (gX X s3 H3 Ag ce fp) ([(h'.objs.size, go)] ++ pl) σ' H' s' → s'.heap.IsGen h'.objs.size s3.gens.size := fun {σ' H' s' pl} J => by
      have q := (J.pin (h'.objs.size, go) (by simp)).1
      exact ⟨go, _, _, q, by rw [← hgo], by rw [← hgo], by rw [← hgo]⟩
    -- the turns
    have loop : ∀ (m n i : Nat) (s₀ s : Shared) (H : Hp), m < n → W i m H → Inv (gX X s3 H3 Ag ce fp) [(h'.objs.size, go)] (wipe σ (own.map (·.2))) H s → tn i s.heap → (∀ b ∈ fp, H b = none) → s3.gens.size + 1 ≤ s.gens.size →
        Seg (model X.prog X.w) X.A.in1.in1 (fun n s₀ r s₁ => r = .ok .next ∧ gR (fun s => ∃ H', Inv X pins σ H' s ∧ Q (.bl false) H') n s₀ s₁) (gY s3.gens.size h'.objs.size true fun s => ∃ H', Inv X pins σ H' s ∧ Q (.bl true) H') n s₀
          (.compLoop (.GeneratorExp elt [⟨tg, iter, [], 0⟩] scope gpos) 0 (.ref it) .none ce) ((model X.prog X.w).den (.compLoop (.GeneratorExp elt [⟨tg, iter, [], 0⟩] scope gpos) 0 (.ref it) .none ce)) [] s := by
      intro m
      induction m using Nat.strongRecOn with
      | ind m ih =>
        intro n i s₀ s H hmn w J st nf hz
        show Seg (model X.prog X.w) _ _ _ n s₀ _ ((compTurn (.GeneratorExp elt [⟨tg, iter, [], 0⟩] scope gpos) 0 (.ref it) .none ce).onRaise (leaving ce)) [] s
        rw [compTurn_gen]
        rw [Sem.onRaise_eq_wrap]
        refine seg_bind_wrap (wpAny_standAt (seg_bind_wrap ?_))
        rw [hAg]
        rcases turn i m H w with ⟨stp, qq⟩ | ⟨go', Nx, hNx, step⟩
        · refine thnF (T.done (gX X s3 H3 Ag ce fp) rfl rfl rfl hc i _ s _ H (fun _ _ => False) J (stat J nf) st stp) fun r s6 ⟨hr6, J6⟩ => ?_
          subst hr6
          exact seg_end (.ok .next) ⟨rfl, J6.bare, H, back J6, qq⟩
        · refine GenW.wpAny_gsz hz (thnF (T.item (gX X s3 H3 Ag ce fp) rfl rfl rfl hc i _ s _ H (fun _ _ => False) J (stat J nf) st go') fun r s6 ⟨u, hr6, h6⟩ hz6 => ?_)
          subst hr6
          refine seg_bind_wrap ?_
          rw [hAg]
          refine GenW.wpAny_gsz hz6 (thnF h6 fun _ s7 ⟨x, H7, J7, r7, y7, st7, n7⟩ hz7 => ?_)
          have J7' := J7.pinned (stat J7 n7) (T.obj _ _ st7)
          refine seg_bind_wrap ?_
          rw [hAg]
          refine GenW.wpAny_gsz hz7 (thnF (pg.run _ s7 _ H7 x u _ J7' r7 (step x H7 y7)) fun _ s8 ⟨σ8, H8, J8, hw8, q8⟩ hz8 => ?_)
          simp only [List.forIn_nil]
          refine seg_bind_wrap (wpAny_pure ?_)
          simp only [if_true]
          have hy : ∀ v, yieldOut ce v = yieldValue v := fun v => by simp only [yieldOut, cCo, Bool.false_eq_true, if_false]
          simp only [hy]
          rw [Sem.bind_eq_wrap', Sem.bind_eq_wrap']
          rw [Sem.wrap_wrap, Sem.wrap_wrap]
          refine seg_wrap ?_
          rw [hAg]
          refine GenW.wpAny_gsz hz8 (thnF (pe.run _ s8 σ8 H8 _ J8 q8) fun z s9 ⟨yv, H9, J9, r9, b, eb, qb⟩ hz9 => ?_)
          subst eb
          obtain rfl : z = Value.bool b := r9
          obtain ⟨n', rfl⟩ : ∃ n', n = n' + 1 := ⟨n - 1, by omega⟩
          refine seg_at (seg_yield rfl rfl rfl ⟨b, rfl, gen J9, J9.nolimit, J9.bare, hz9, fun e => ?_, fun e s' r => ?_⟩)
          · subst e
            exact ⟨H9, back J9, qb⟩
          · have e : b = false := by
              cases b with
              | false => rfl
              | true => exact absurd rfl e
            subst e
            rw [if_pos rfl] at qb
            obtain ⟨m', hm', w'⟩ := hNx H9 qb
            have pin' : ∀ b ∈ fp, ∀ o, s7.heap.get? b = some o → s9.heap.get? b = some o ∧ H9 b = none := fun b hb o e =>
              let z := J9.pin (b, o) (List.mem_append_right _ (List.mem_append_right _ (mem_pinsAt hb e)))
              ⟨z.1, z.2.1⟩
            have hl : (wipe σ (own.map (·.2))).length = σ8.length := by rw [← hw8, wipe_length]
            have K9 : Inv (gX X s3 H3 Ag ce fp) [(h'.objs.size, go)] (wipe σ (own.map (·.2))) H9 s9 := J9.unpinned.weak hl fun j v e => by
              rw [← hw8] at e
              exact (wipe_some e).1
            refine seg_again rfl (ih m' hm' n' (i + 1) s' s' H9 (by omega) w' (r.inv K9) ?_ (fun b hb => ?_) (Nat.le_trans hz9 r.size))
            · rw [r.heap]
              exact T.keep _ _ _ st7 fun b hb o e => (pin' b hb o e).1
            · obtain ⟨o, e, _⟩ := T.obj _ _ st7 b hb
              exact (pin' b hb o e).2
    have mono : ∀ (b : Bool) (s s' : Shared), (∃ H', Inv X pins σ H' s ∧ Q (.bl b) H') → s'.os = s.os → AllBare s'.gens → (∀ b o, s.heap.get? b = some o → s'.heap.get? b = some o) → ∃ H', Inv X pins σ H' s' ∧ Q (.bl b) H' := fun b s s' ⟨H', J, q⟩ h1 h2 h3 =>
      ⟨H', inv_gens (J.kept (t' := s'.toks) h3) rfl h1 h2, q⟩
    generalize hs5 : ({ s3 with heap := h'.push go, gens := s3.gens.push (.fresh (.compStart (.GeneratorExp elt [⟨tg, iter, [], 0⟩] scope gpos) 0 (.ref it) .none ce)), toks := s3.toks + 1 + 1 + 1 } : Shared) = s5 at I5
    have hg5 : s5.gens[s3.gens.size]? = some (.fresh (.compStart (.GeneratorExp elt [⟨tg, iter, [], 0⟩] scope gpos) 0 (.ref it) .none ce)) := by
      rw [← hs5]
      exact Array.getElem?_push_size ..
    have hz5 : s3.gens.size + 1 ≤ s5.gens.size := by
      rw [← hs5]
      exact Nat.le_of_eq (Array.size_push ..).symm
    have ht5 : tn 0 s5.heap := by rw [← hs5]; exact st5
    have wt : Waits X.prog X.w X.A.in1 s3.gens.size h'.objs.size true (fun s => ∃ H', Inv X pins σ H' s ∧ Q (.bl false) H') (fun s => ∃ H', Inv X pins σ H' s ∧ Q (.bl true) H') (m0 + 1) s5 := by
      refine ⟨gen (pl := []) I5, I5.nolimit, I5.bare, _, hg5, fun s' r => ⟨rfl, ?_⟩⟩
      have lp := loop m0 (m0 + 1) 0 s' s' H3 (Nat.lt_succ_self _) hw0 (r.inv I5) (by rw [r.heap]; exact ht5) nfp (Nat.le_trans hz5 r.size)
      show Seg (model X.prog X.w) _ _ _ _ s' _ ((compStart (.GeneratorExp elt [⟨tg, iter, [], 0⟩] scope gpos) 0 (.ref it) .none ce).onRaise (leaving ce)) [] s'
      unfold compStart
      rw [Sem.onRaise_eq_wrap]
      show Seg (model X.prog X.w) _ _ _ _ s' _ ((ask >>= _).wrap _ _ _ _) [] s'
      refine seg_bind_wrap (wpAny_askSetting ?_)
      have ts : tn 0 s'.heap := by rw [r.heap]; exact ht5
      split
      · exact seg_again rfl lp
      · first
          | exact seg_bind_wrap (wpAny_rule (seg_bind_wrap (wpAny_standAt (seg_bind_wrap (T.self _ 0 s' _ _ ts (seg_again rfl lp))))))
          | (refine seg_bind_wrap (wpAny_rule ?_); show Seg (model X.prog X.w) _ _ _ _ s' _ ((standAt iter.pos >>= _).wrap _ _ _ _) [] s'; exact seg_bind_wrap (wpAny_standAt (seg_bind_wrap (T.self _ 0 s' _ _ ts (seg_again rfl lp)))))
    refine call_function_tree PySem.F.kind_any PySem.F.plain_any PySem.F.entry_any (PySem.F.args_any1 _) ?_
    unfold Builtin.«any»
    refine wpAny_bind (m := oneArg "any" _) (wpAny_pure ?_)
    refine wpAny_bind (wpAny_pyIter_gen (gen (pl := []) I5) ?_)
    refine wpAny_pure ⟨plainId_quiet PySem.F.plain_any_loop _, codeAny_mono (any_loop hh hr.depth (mono false) (mono true) (m0 + 1) s5 wt) fun r s' hq => ?_⟩
    rcases hq with ⟨rfl, H', J, q⟩ | ⟨rfl, H', J, q⟩
    · exact ⟨.bl false, H', J, rfl, q⟩
    · exact ⟨.bl true, H', J, rfl, q⟩
  cases hf : codeAmong gpos ps.toList with
  | none =>
    refine wpAny_genexprCodeX hcode (cd.code hPs ht) (cd.tab hPs) hf fun c' h' tk hx hge hlt hco' _ htab' _ => ?_
    obtain ⟨o1, vs, f1, tf, fl, tg1, inF, tx, tt, op, _, _, _, _, _, _, _, _, _, htr, _⟩ := hco'
    exact cont _ h' tk _ (Nat.le_trans hge (Nat.le_of_lt hlt)) (fun b o hb e => hx b o hb e) htab'.2 htr
  | some cv =>
    refine wpAny_genexprCode_hit hcode (cd.code hPs ht) hf ?_
    have := cont cv s2.heap s2.toks #[] (Nat.le_refl _) (fun _ _ _ e => e) (by rw [hPs]; simp) (by simpa using ht)
    exact this
end
def topS (i : Nat) : Stmt := PySem.Challenge.pw_friendfoe_k82_whole_papers_show_no_more.main.body.getD i (.Pass ⟨0, 0, 0, 0⟩)
abbrev s_is_whole : Stmt := topS 1
abbrev N_is_whole : List Str := ["thing"]
theorem sc_is_whole : FnScope N_is_whole ["thing"] (defScope s_is_whole) := ⟨rfl, rfl, rfl, by decide +kernel, rfl, by decide +kernel, by decide +kernel⟩
abbrev s_is_whole_from : Stmt := topS 2
abbrev N_is_whole_from : List Str := ["low", "thing"]
theorem sc_is_whole_from : FnScope N_is_whole_from ["low", "thing"] (defScope s_is_whole_from) := ⟨rfl, rfl, rfl, by decide +kernel, rfl, by decide +kernel, by decide +kernel⟩
abbrev s_is_whole_below : Stmt := topS 3
abbrev N_is_whole_below : List Str := ["limit", "thing"]
theorem sc_is_whole_below : FnScope N_is_whole_below ["limit", "thing"] (defScope s_is_whole_below) := ⟨rfl, rfl, rfl, by decide +kernel, rfl, by decide +kernel, by decide +kernel⟩
abbrev s_are_unlike_places : Stmt := topS 4
abbrev N_are_unlike_places : List Str := ["many", "one", "other"]
theorem sc_are_unlike_places : FnScope N_are_unlike_places ["many", "one", "other"] (defScope s_are_unlike_places) := ⟨rfl, rfl, rfl, by decide +kernel, rfl, by decide +kernel, by decide +kernel⟩
abbrev s_is_tuple_of : Stmt := topS 5
abbrev N_is_tuple_of : List Str := ["length", "thing"]
theorem sc_is_tuple_of : FnScope N_is_tuple_of ["length", "thing"] (defScope s_is_tuple_of) := ⟨rfl, rfl, rfl, by decide +kernel, rfl, by decide +kernel, by decide +kernel⟩
abbrev s_are_rising_below : Stmt := topS 6
abbrev N_are_rising_below : List Str := ["limit", "thing", "number", "following"]
theorem sc_are_rising_below : FnScope N_are_rising_below ["limit", "thing"] (defScope s_are_rising_below) := ⟨rfl, rfl, rfl, by decide +kernel, rfl, by decide +kernel, by decide +kernel⟩
abbrev s_are_unlike_below : Stmt := topS 8
abbrev N_are_unlike_below : List Str := ["limit", "thing", "number"]
theorem sc_are_unlike_below : FnScope N_are_unlike_below ["limit", "thing"] (defScope s_are_unlike_below) := ⟨rfl, rfl, rfl, by decide +kernel, rfl, by decide +kernel, by decide +kernel⟩
abbrev s_joins : Stmt := topS 9
abbrev N_joins : List Str := ["tie", "one", "other"]
theorem sc_joins : FnScope N_joins ["tie", "one", "other"] (defScope s_joins) := ⟨rfl, rfl, rfl, by decide +kernel, rfl, by decide +kernel, by decide +kernel⟩
abbrev s_ring_holds : Stmt := topS 10
abbrev N_ring_holds : List Str := ["web", "thing", "places", "ties", "followers", "tie", "one", "other"]
theorem sc_ring_holds : FnScope N_ring_holds ["web", "thing"] (defScope s_ring_holds) := ⟨rfl, rfl, rfl, by decide +kernel, rfl, by decide +kernel, by decide +kernel⟩
abbrev s_foes_in : Stmt := topS 11
abbrev N_foes_in : List Str := ["web", "ring", "tie"]
theorem sc_foes_in : FnScope N_foes_in ["web", "ring"] (defScope s_foes_in) := ⟨rfl, rfl, rfl, by decide +kernel, rfl, by decide +kernel, by decide +kernel⟩
abbrev s_odd_ring_holds : Stmt := topS 12
abbrev N_odd_ring_holds : List Str := ["web", "thing"]
theorem sc_odd_ring_holds : FnScope N_odd_ring_holds ["web", "thing"] (defScope s_odd_ring_holds) := ⟨rfl, rfl, rfl, by decide +kernel, rfl, by decide +kernel, by decide +kernel⟩
abbrev s_weight_of : Stmt := topS 14
abbrev N_weight_of : List Str := ["weights", "tie"]
theorem sc_weight_of : FnScope N_weight_of ["weights", "tie"] (defScope s_weight_of) := ⟨rfl, rfl, rfl, by decide +kernel, rfl, by decide +kernel, by decide +kernel⟩
abbrev s_is_ring_row : Stmt := topS 16
abbrev N_is_ring_row : List Str := ["web", "limits", "given", "thing", "ring", "times", "tie"]
theorem sc_is_ring_row : FnScope N_is_ring_row ["web", "limits", "given", "thing"] (defScope s_is_ring_row) := ⟨rfl, rfl, rfl, by decide +kernel, rfl, by decide +kernel, by decide +kernel⟩
abbrev s_rings_show : Stmt := topS 17
abbrev N_rings_show : List Str := ["web", "limits", "given", "rows", "total", "used", "row", "ring", "times", "tie"]
theorem sc_rings_show : FnScope N_rings_show ["web", "limits", "given", "rows"] (defScope s_rings_show) := ⟨rfl, rfl, rfl, by decide +kernel, rfl, by decide +kernel, by decide +kernel⟩
abbrev s_is_split_row : Stmt := topS 18
abbrev N_is_split_row : List Str := ["limits", "given", "taken", "thing", "tie"]
theorem sc_is_split_row : FnScope N_is_split_row ["limits", "given", "taken", "thing"] (defScope s_is_split_row) := ⟨rfl, rfl, rfl, by decide +kernel, rfl, by decide +kernel, by decide +kernel⟩
abbrev s_split_shows : Stmt := topS 19
abbrev N_split_shows : List Str := ["web", "limits", "given", "rows", "total", "taken", "row", "own", "tie", "shown"]
theorem sc_split_shows : FnScope N_split_shows ["web", "limits", "given", "rows"] (defScope s_split_shows) := ⟨rfl, rfl, rfl, by decide +kernel, rfl, by decide +kernel, by decide +kernel⟩
abbrev s_case_shows : Stmt := topS 20
abbrev N_case_shows : List Str := ["web", "limits", "given", "thing", "word", "one", "other", "together", "apart", "shown", "kind", "paper", "surer"]
theorem sc_case_shows : FnScope N_case_shows ["web", "limits", "given", "thing"] (defScope s_case_shows) := ⟨rfl, rfl, rfl, by decide +kernel, rfl, by decide +kernel, by decide +kernel⟩
abbrev s_knot_shows : Stmt := topS 21
abbrev N_knot_shows : List Str := ["web", "limits", "given", "thing", "word", "rows"]
theorem sc_knot_shows : FnScope N_knot_shows ["web", "limits", "given", "thing"] (defScope s_knot_shows) := ⟨rfl, rfl, rfl, by decide +kernel, rfl, by decide +kernel, by decide +kernel⟩
abbrev s_shown_by : Stmt := topS 22
abbrev N_shown_by : List Str := ["web", "weights", "thing", "limits", "tie", "given"]
theorem sc_shown_by : FnScope N_shown_by ["web", "weights", "thing"] (defScope s_shown_by) := ⟨rfl, rfl, rfl, by decide +kernel, rfl, by decide +kernel, by decide +kernel⟩
abbrev s_l_feed : Stmt := topS 24
abbrev N_l_feed : List Str := ["_law_script"]
theorem sc_l_feed : FnScope N_l_feed ["_law_script"] (defScope s_l_feed) := ⟨rfl, rfl, rfl, by decide +kernel, rfl, by decide +kernel, by decide +kernel⟩
abbrev s_l_draw : Stmt := topS 25
abbrev N_l_draw : List Str := ["_law_feed_here", "_law_most", "_law_found", "_law_cell", "_law_mixed"]
theorem sc_l_draw : FnScope N_l_draw ["_law_feed_here", "_law_most"] (defScope s_l_draw) := ⟨rfl, rfl, rfl, by decide +kernel, rfl, by decide +kernel, by decide +kernel⟩
abbrev s_l_web : Stmt := topS 26
abbrev N_l_web : List Str := ["_law_feed_here", "_law_places", "_law_most", "_law_many", "_law_ties", "_law_k", "_law_one", "_law_other"]
theorem sc_l_web : FnScope N_l_web ["_law_feed_here", "_law_places", "_law_most"] (defScope s_l_web) := ⟨rfl, rfl, rfl, by decide +kernel, rfl, by decide +kernel, by decide +kernel⟩
abbrev s_l_weights : Stmt := topS 27
abbrev N_l_weights : List Str := ["_law_feed_here", "_law_many", "_law_way_here", "_law_found", "_law_k", "_law_more"]
theorem sc_l_weights : FnScope N_l_weights ["_law_feed_here", "_law_many"] (defScope s_l_weights) := ⟨rfl, rfl, rfl, by decide +kernel, rfl, by decide +kernel, by decide +kernel⟩
abbrev s_l_weight : Stmt := topS 28
abbrev N_l_weight : List Str := ["_law_weights_here", "_law_tie"]
theorem sc_l_weight : FnScope N_l_weight ["_law_weights_here", "_law_tie"] (defScope s_l_weight) := ⟨rfl, rfl, rfl, by decide +kernel, rfl, by decide +kernel, by decide +kernel⟩
abbrev s_l_world : Stmt := topS 29
abbrev N_l_world : List Str := ["_law_feed_here", "_law_places", "_law_most", "_law_web_here"]
theorem sc_l_world : FnScope N_l_world ["_law_feed_here", "_law_places", "_law_most"] (defScope s_l_world) := ⟨rfl, rfl, rfl, by decide +kernel, rfl, by decide +kernel, by decide +kernel⟩
abbrev s_l_way : Stmt := topS 30
abbrev N_l_way : List Str := ["_law_ties", "_law_numbers", "_law_begin", "_law_end", "_law_came", "_law_line", "_law_at", "_law_tie", "_law_one", "_law_other", "_law_places", "_law_told_here", "_law_place"]
theorem sc_l_way : FnScope N_l_way ["_law_ties", "_law_numbers", "_law_begin", "_law_end"] (defScope s_l_way) := ⟨rfl, rfl, rfl, by decide +kernel, rfl, by decide +kernel, by decide +kernel⟩
abbrev s_l_turned : Stmt := topS 31
abbrev N_l_turned : List Str := ["_law_feed_here", "_law_places", "_law_told_here", "_law_at"]
theorem sc_l_turned : FnScope N_l_turned ["_law_feed_here", "_law_places", "_law_told_here"] (defScope s_l_turned) := ⟨rfl, rfl, rfl, by decide +kernel, rfl, by decide +kernel, by decide +kernel⟩
abbrev s_l_rings : Stmt := topS 32
abbrev N_l_rings : List Str := ["_law_feed_here", "_law_ties", "_law_numbers", "_law_wanted", "_law_most", "_law_found", "_law_begin", "_law_tie", "_law_others", "_law_one", "_law_at", "_law_way_here", "_law_told_here"]
theorem sc_l_rings : FnScope N_l_rings ["_law_feed_here", "_law_ties", "_law_numbers", "_law_wanted", "_law_most"] (defScope s_l_rings) := ⟨rfl, rfl, rfl, by decide +kernel, rfl, by decide +kernel, by decide +kernel⟩
abbrev s_l_ring_rows : Stmt := topS 33
abbrev N_l_ring_rows : List Str := ["_law_feed_here", "_law_world_here", "_law_sure", "_law_given", "_law_most", "_law_many", "_law_ties", "_law_weights_here", "_law_numbers", "_law_room", "_law_tie", "_law_rows", "_law_ring", "_law_left", "_law_times"]
theorem sc_l_ring_rows : FnScope N_l_ring_rows ["_law_feed_here", "_law_world_here", "_law_sure", "_law_given", "_law_most"] (defScope s_l_ring_rows) := ⟨rfl, rfl, rfl, by decide +kernel, rfl, by decide +kernel, by decide +kernel⟩
abbrev s_l_paper : Stmt := topS 34
abbrev N_l_paper : List Str := ["_law_feed_here", "_law_world_here", "_law_sure", "_law_given", "_law_deep", "_law_way_here", "_law_some", "_law_tie", "_law_part_here", "_law_one", "_law_other", "_law_both", "_law_kind"]
theorem sc_l_paper : FnScope N_l_paper ["_law_feed_here", "_law_world_here", "_law_sure", "_law_given", "_law_deep"] (defScope s_l_paper) := ⟨rfl, rfl, rfl, by decide +kernel, rfl, by decide +kernel, by decide +kernel⟩
abbrev s_l_told : Stmt := topS 35
abbrev N_l_told : List Str := ["_law_world_here", "_law_thing", "_law_found"]
theorem sc_l_told : FnScope N_l_told ["_law_world_here", "_law_thing"] (defScope s_l_told) := ⟨rfl, rfl, rfl, by decide +kernel, rfl, by decide +kernel, by decide +kernel⟩
abbrev s_l_part : Stmt := topS 36
abbrev N_l_part : List Str := ["_law_thing", "_law_spot", "_law_k"]
theorem sc_l_part : FnScope N_l_part ["_law_thing", "_law_spot"] (defScope s_l_part) := ⟨rfl, rfl, rfl, by decide +kernel, rfl, by decide +kernel, by decide +kernel⟩
abbrev s_l_spots : Stmt := topS 37
abbrev N_l_spots : List Str := ["_law_thing", "_law_found", "_law_at", "_law_part_here", "_law_k"]
theorem sc_l_spots : FnScope N_l_spots ["_law_thing"] (defScope s_l_spots) := ⟨rfl, rfl, rfl, by decide +kernel, rfl, by decide +kernel, by decide +kernel⟩
abbrev s_l_put : Stmt := topS 38
abbrev N_l_put : List Str := ["_law_thing", "_law_spot", "_law_part_here", "_law_k"]
theorem sc_l_put : FnScope N_l_put ["_law_thing", "_law_spot", "_law_part_here"] (defScope s_l_put) := ⟨rfl, rfl, rfl, by decide +kernel, rfl, by decide +kernel, by decide +kernel⟩
abbrev s_l_spoiled : Stmt := topS 39
abbrev N_l_spoiled : List Str := ["_law_feed_here", "_law_thing", "_law_spot", "_law_part_here", "_law_way_here", "_law_letters", "_law_at", "_law_sign", "_law_some"]
theorem sc_l_spoiled : FnScope N_l_spoiled ["_law_feed_here", "_law_thing", "_law_spot"] (defScope s_l_spoiled) := ⟨rfl, rfl, rfl, by decide +kernel, rfl, by decide +kernel, by decide +kernel⟩
abbrev s_l_broken : Stmt := topS 40
abbrev N_l_broken : List Str := ["_law_world_here", "_law_sides", "_law_found", "_law_k", "_law_one", "_law_other", "_law_kind"]
theorem sc_l_broken : FnScope N_l_broken ["_law_world_here", "_law_sides"] (defScope s_l_broken) := ⟨rfl, rfl, rfl, by decide +kernel, rfl, by decide +kernel, by decide +kernel⟩
abbrev s_l_least : Stmt := topS 41
abbrev N_l_least : List Str := ["_law_world_here", "_law_found", "_law_number", "_law_sides", "_law_k", "_law_weight_here", "_law_tie"]
theorem sc_l_least : FnScope N_l_least ["_law_world_here"] (defScope s_l_least) := ⟨rfl, rfl, rfl, by decide +kernel, rfl, by decide +kernel, by decide +kernel⟩
abbrev s_l_bounds : Stmt := topS 42
abbrev N_l_bounds : List Str := ["_law_feed_here", "_law_world_here", "_law_found", "_law_k", "_law_sides", "_law_place", "_law_mend", "_law_tie"]
theorem sc_l_bounds : FnScope N_l_bounds ["_law_feed_here", "_law_world_here"] (defScope s_l_bounds) := ⟨rfl, rfl, rfl, by decide +kernel, rfl, by decide +kernel, by decide +kernel⟩
abbrev s_l_is_bound : Stmt := topS 43
abbrev N_l_is_bound : List Str := ["_law_world_here", "_law_some", "_law_bounds_here", "_law_shown"]
theorem sc_l_is_bound : FnScope N_l_is_bound ["_law_world_here", "_law_some", "_law_bounds_here"] (defScope s_l_is_bound) := ⟨rfl, rfl, rfl, by decide +kernel, rfl, by decide +kernel, by decide +kernel⟩
abbrev s_law : Stmt := topS 44
abbrev N_law : List Str := ["_law_script", "_law_feed_here", "_law_turn", "_law_world_here", "_law_given", "_law_bounds_here", "_law_k", "_law_paper_here", "_law_spots_here", "_law_j", "_law_some"]
theorem sc_law : FnScope N_law ["_law_script"] (defScope s_law) := ⟨rfl, rfl, rfl, by decide +kernel, rfl, by decide +kernel, by decide +kernel⟩
/-! ### own rules: a list against [] -/
section
variable {X : Cx}
def rEqE (K : PySem.W.Frag) : R2 := fun x y H Q => ∃ (a b : Addr) (xs : List V), x = .ref a ∧ y = .ref b ∧ SqL K H a xs ∧ SqL K H b [] ∧ Q (.bl xs.isEmpty) H
def rNeE (K : PySem.W.Frag) : R2 := fun x y H Q => ∃ (a b : Addr) (xs : List V), x = .ref a ∧ y = .ref b ∧ SqL K H a xs ∧ SqL K H b [] ∧ Q (.bl (!xs.isEmpty)) H
theorem op_eqE (hu : X.A.units < cLine) : OpR X (compareOp .Eq) (rEqE X.K) := by
  intro pins s σ H x y v u Q I rx ry h
  obtain ⟨a, b, xs, rfl, rfl, ha, hb, q⟩ := h
  obtain rfl : v = Value.ref a := rx
  obtain rfl : u = Value.ref b := ry
  obtain ⟨its, r1, p1, _⟩ := I.list ha
  obtain ⟨its2, r2, p2, _⟩ := I.list hb
  cases r2
  cases xs with
  | nil =>
    cases r1
    exact SeqAt.eq_listAt (e := fun _ => true) p1.isList p2.isList rfl hu (fun j h1 _ => absurd h1 (by simp)) ⟨.bl true, H, I, rfl, q⟩
  | cons z zs =>
    cases r1 with
    | cons r t => exact SeqAt.eq_list_lengthsAt p1.isList p2.isList (by simp) hu ⟨.bl false, H, I, rfl, q⟩
theorem op_neE (hu : X.A.units < cLine) : OpR X (compareOp .NotEq) (rNeE X.K) := by
  intro pins s σ H x y v u Q I rx ry h
  obtain ⟨a, b, xs, rfl, rfl, ha, hb, q⟩ := h
  obtain rfl : v = Value.ref a := rx
  obtain rfl : u = Value.ref b := ry
  obtain ⟨its, r1, p1, _⟩ := I.list ha
  obtain ⟨its2, r2, p2, _⟩ := I.list hb
  cases r2
  cases xs with
  | nil =>
    cases r1
    exact SeqAt.RcNeAt.lists (e := fun _ => true) p1.isList p2.isList rfl hu (fun j h1 _ => absurd h1 (by simp)) _ _ _ _ ⟨.bl false, H, I, rfl, q⟩
  | cons z zs =>
    cases r1 with
    | cons r t => exact SeqAt.RcNeAt.lists_lengths p1.isList p2.isList (by simp) hu _ _ _ _ ⟨.bl true, H, I, rfl, q⟩
end
section
variable {P : Program} {w : World} {K : PySem.W.Frag} {mg : Str → Option Value} {base : Heap}
/-! ### the deck is laid -/
theorem cutV_ints (ns : List Int) (lo hi : Option Int) : ∃ ms : List Int, cutV (ns.map V.int) lo hi = ms.map V.int ∧ ms.length ≤ ns.length := by
  refine ⟨(ns.drop (HT.sIx ns.length 0 lo)).take (HT.sIx ns.length ns.length hi - HT.sIx ns.length 0 lo), ?_, ?_⟩
  · unfold cutV
    rw [List.length_map, List.map_take, List.map_drop]
  · rw [List.length_take, List.length_drop]
    omega
theorem ok_l_draw {f : Addr} {fd : FuncData} (F : Fun K "_law_draw" "_law_draw" s_l_draw f fd) (M : Free mg) : FnOk P w K mg base CX0 1 f fd ["_law_feed_here", "_law_most"] spDraw := by
  refine F.ok sc_l_draw (fun vs H Q E h => ?_) (fun cdv A outer s H vs Q E hr h => ?_)
  · obtain ⟨d, c, m, rfl, _⟩ := h
    rfl
  · obtain ⟨d, c, m, rfl, hD, hm, hb, q⟩ := h
    have ndc := hD.ne
    obtain ⟨cells, st, ⟨n, l⟩, hd, hc, hl, n0, n1, st0, st1⟩ := hD
    have hd : H d = some (.dK (dkv c n l st)) := hd
    have n0 : 0 ≤ n := n0
    have n1 : n ≤ cells.length := n1
    obtain ⟨k, rfl⟩ : ∃ k : Nat, n = k := ⟨n.toNat, by omega⟩
    have hu := hu_of hr
    refine ⟨_, (pss_cons (ps_if (pt_cmpR op_gt (pe_dget hu (pv 0) pe_str (fun _ _ => rfl)) pe_int (nomark _))
        (pss_cons (ps_set (i := 2) sc_l_draw.nd rfl (.inl rfl) (pe_op op_mod (pe_dget hu (pv 0) pe_str (fun _ _ => rfl)) (pv 1)))
        (pss_cons (ps_dput hu (pv 0) pe_str (pe_op op_fdivW (pe_dget hu (pv 0) pe_str (fun _ _ => rfl)) (pv 1)) rfl)
        (pss_one (ps_ret (pv 2)))))
        pss_nil)
      (pss_cons (ps_set (i := 3) sc_l_draw.nd rfl (.inl rfl) pe_int)
      (Evl.pss_cut (ps_if (pt_cmpR op_lt (pe_dget hu (pv 0) pe_str (fun _ _ => rfl)) (pe_callB call_len_seq (by rfl) M.len PySem.boot_len (pa_cons (pe_dget hu (pv 0) pe_str (fun _ _ => rfl)) pa_nil)) (nomark _))
        (pss_cons (ps_set (i := 3) sc_l_draw.nd rfl (.inl rfl) (pe_ix ix_list (pe_dget hu (pv 0) pe_str (fun _ _ => rfl)) (pe_dget hu (pv 0) pe_str (fun _ _ => rfl)) (fun _ _ => rfl)))
        (pss_one (ps_dput hu (pv 0) pe_str (pe_op op_add (pe_dget hu (pv 0) pe_str (fun _ _ => rfl)) pe_int) rfl)))
        pss_nil)
      (pss_cons (ps_if (pt_cmpR op_ge (pv 3) (pe_op op_pow pe_int pe_int) (nomark _))
        (pss_cons (ps_dput hu (pv 0) pe_str (pe_op op_fdivW (pv 3) (pv 1)) rfl)
        (pss_one (ps_ret (pe_op op_mod (pv 3) (pv 1)))))
        pss_nil)
      (pss_cons (ps_dput hu (pv 0) pe_str (pe_op op_mod (pe_op op_add (pe_op op_add (pe_op op_mul (pe_dget hu (pv 0) pe_str (fun _ _ => rfl)) pe_int) (pe_op op_mod (pv 3) pe_int)) pe_int) pe_int) rfl)
      (pss_cons (ps_set (i := 4) sc_l_draw.nd rfl (.inl rfl) (pe_op op_mod (pe_op op_mul (pe_dget hu (pv 0) pe_str (fun _ _ => rfl)) (pe_op op_add (pe_op op_fdiv (pe_dget hu (pv 0) pe_str (fun _ _ => rfl)) pe_int) pe_int)) pe_int))
      (pss_one (ps_ret (pe_op op_mod (pe_op op_fdiv (pe_op op_mod (pe_op op_add (pe_op op_mul (pv 4) pe_int) pe_int) pe_int) pe_int) (pv 1)))))))))), ?_⟩
    have gAt : DGet H d (.str "at") (some (.int k)) := by rw [← dkv_at c k l st]; exact DGet.k (k := Sum.inr "at") hd
    have gCe : DGet H d (.str "cells") (some (.ref c)) := by rw [← dkv_cells c k l st]; exact DGet.k (k := Sum.inr "cells") hd
    have gLe : DGet H d (.str "left") (some (.int l)) := by rw [← dkv_left c k l st]; exact DGet.k (k := Sum.inr "left") hd
    refine ⟨.ref d, rfl, d, _, rfl, gLe, _, _, rfl, rfl, _, rfl, ?_⟩
    refine ite2 (fun _ => ?_) (fun _ => ?_)
    · refine ⟨.ref d, rfl, d, _, rfl, gLe, .int m, rfl, l, m, rfl, rfl, hm, ?_⟩
      refine ⟨.ref d, rfl, d, _, rfl, gLe, .int m, rfl, l, m, rfl, rfl, wide_div hm hb (by decide) (by decide), .ref d, rfl, d, _, rfl, DPut.k (k := Sum.inr "left") hd (by show 4 < sizeLine; decide), ?_⟩
      rw [dkv_putLeft]
      exact ⟨_, rfl, q _ _ (mod_rng hm).1 (mod_rng hm).2 ⟨cells, st, ((k : Int), l / m), upd_same, by rw [upd_ne (Ne.symm ndc)]; exact hc, hl, n0, n1, st0, st1⟩ Kp.at_d⟩
    refine ⟨fun σ' H' => ∃ (y2 : Option V) (x n : Int), σ' = [some (.ref d), some (.int m), y2, some (.int x), none] ∧ H' d = some (.dK (dkv c n l st)) ∧ H' c = some (.lst (cells.map V.int)) ∧ 0 ≤ n ∧ n ≤ cells.length ∧ Kp d c H H', ?_, ?_⟩
    · refine ⟨.ref d, rfl, d, _, rfl, gAt, .ref d, rfl, d, _, rfl, gCe, c, _, rfl, .inl (SqL.of hc), _, _, rfl, rfl, _, rfl, ?_⟩
      rw [List.length_map]
      refine ite2 (fun h1 => ?_) (fun _ => ?_)
      · have hk : k < cells.length := by have := of_decide_eq_true h1; omega
        have ea : atI (cells.map V.int) (k : Int) = some (.int cells[k]) := atI_nat (by rw [List.getElem?_map, List.getElem?_eq_getElem hk]; rfl)
        refine ⟨.ref d, rfl, d, _, rfl, gCe, .ref d, rfl, d, _, rfl, gAt, c, _, k, .int cells[k], rfl, rfl, SqL.of hc, ea, ?_⟩
        refine ⟨.ref d, rfl, d, _, rfl, gAt, k, 1, rfl, rfl, .ref d, rfl, d, _, rfl, DPut.k (k := Sum.inr "at") hd (by show 4 < sizeLine; decide), ?_⟩
        rw [dkv_putAt]
        exact ⟨_, _, (k : Int) + 1, rfl, upd_same, by rw [upd_ne (Ne.symm ndc)]; exact hc, by omega, by omega, Kp.at_d⟩
      · exact ⟨_, _, (k : Int), rfl, hd, hc, n0, n1, Kp.refl⟩
    rintro σ' H2 ⟨y2, x, n, rfl, hd2, hc2, n20, n21, k2⟩
    refine ⟨.int x, rfl, 10, 18, rfl, rfl, ⟨by decide, by decide, by decide⟩, _, _, rfl, rfl, _, rfl, ?_⟩
    refine ite2 (fun _ => ?_) (fun _ => ?_)
    · refine ⟨.int x, rfl, .int m, rfl, x, m, rfl, rfl, wide_div hm hb (by decide) (by decide), .ref d, rfl, d, _, rfl, DPut.k (k := Sum.inr "left") hd2 (by show 4 < sizeLine; decide), ?_⟩
      rw [dkv_putLeft]
      refine ⟨.int x, rfl, .int m, rfl, x, m, rfl, rfl, hm, ?_⟩
      exact q _ _ (mod_rng hm).1 (mod_rng hm).2 ⟨cells, st, (n, x / m), upd_same, by rw [upd_ne (Ne.symm ndc)]; exact hc2, hl, n20, n21, st0, st1⟩ (k2.trans Kp.at_d)
    have gSe : DGet H2 d (.str "seed") (some (.int st)) := by rw [← dkv_seed c n l st]; exact DGet.k (k := Sum.inr "seed") hd2
    refine ⟨.ref d, rfl, d, _, rfl, gSe, st, 48271, rfl, rfl, .inr ⟨by decide, by decide⟩, .int x, rfl, x, 2147483629, rfl, rfl, show (0 : Int) < 2147483629 by decide, _, _, rfl, rfl, _, 7919, rfl, rfl, _, 2147483587, rfl, rfl, show (0 : Int) < 2147483587 by decide, .ref d, rfl, d, _, rfl, DPut.k (k := Sum.inr "seed") hd2 (by show 4 < sizeLine; decide), ?_⟩
    rw [dkv_putSeed]
    have r1 := mod_rng (a := st * 48271 + x % 2147483629 + 7919) (m := 2147483587) (by decide)
    generalize (st * 48271 + x % 2147483629 + 7919) % 2147483587 = S at r1
    have hd3 : (upd H2 d (.dK (dkv c n l S))) d = some (.dK (dkv c n l S)) := upd_same
    have hc3 : (upd H2 d (.dK (dkv c n l S))) c = some (.lst (cells.map V.int)) := by rw [upd_ne (Ne.symm ndc)]; exact hc2
    have k3 : Kp d c H (upd H2 d (.dK (dkv c n l S))) := k2.trans Kp.at_d
    generalize upd H2 d (.dK (dkv c n l S)) = H3 at hd3 hc3 k3
    have gS3 : DGet H3 d (.str "seed") (some (.int S)) := by rw [← dkv_seed c n l S]; exact DGet.k (k := Sum.inr "seed") hd3
    refine ⟨.ref d, rfl, d, _, rfl, gS3, .ref d, rfl, d, _, rfl, gS3, S, 7, rfl, rfl, ⟨by decide, by decide⟩, _, 69621, rfl, rfl, S, _, rfl, rfl, .inl ⟨by omega, by omega⟩, _, 2147483563, rfl, rfl, show (0 : Int) < 2147483563 by decide, ?_⟩
    refine ⟨.int (S * (S / 7 + 69621) % 2147483563), rfl, _, 39373, rfl, rfl, .inr ⟨by decide, by decide⟩, _, 16807, rfl, rfl, _, 2147483399, rfl, rfl, show (0 : Int) < 2147483399 by decide, _, 64, rfl, rfl, ⟨by decide, by decide⟩, .int m, rfl, _, m, rfl, rfl, hm, ?_⟩
    exact q _ _ (mod_rng hm).1 (mod_rng hm).2 ⟨cells, S, (n, l), hd3, hc3, hl, n20, n21, by omega, by omega⟩ k3
def spDeck (K : PySem.W.Frag) : Sp := fun vs H Q _ => ∃ (a : Addr) (ns : List Int), vs = [.ref a] ∧ SqL K H a (ns.map V.int) ∧ ns.length ≤ 63 ∧
  ∀ d c H', Same H H' → H d = none → H c = none → Deck H' d c → Q (.ref d) H'
theorem Same.mutD {H H' : Hp} {a : Addr} {o : HO} (s : Same H H') (h : H a = none) : Same H (upd H' a o) := fun b x e => by
  rw [upd_ne (ne_of_none e h)]
  exact s b x e
theorem ok_l_feed {f : Addr} {fd : FuncData} (F : Fun K "_law_feed" "_law_feed" s_l_feed f fd) (M : Free mg) : FnOk P w K mg base CX0 1 f fd ["_law_script"] (spDeck K) := by
  refine F.ok sc_l_feed (fun vs H Q E h => ?_) (fun cdv A outer s H vs Q E hr h => ?_)
  · obtain ⟨a, ns, rfl, _⟩ := h
    rfl
  · obtain ⟨a, ns, rfl, hS, hl, q⟩ := h
    refine ⟨_, (pss_one (ps_ret (pe_disp (pps_cons pe_str (pe_callTy call_list_of (by rfl) M.list (by decide +kernel) (pa_cons (pe_slice sl_list (pv 0) po_none (po_some pe_int)) pa_nil)) (pps_cons pe_str pe_int (pps_cons pe_str pe_int (pps_cons pe_str (pe_op op_add (pe_op op_mod (pe_callB (cr_sum rfl) (by rfl) M.sum (by decide +kernel) (pa_cons (pe_slice sl_list (pv 0) po_none (po_some pe_int)) pa_nil)) pe_int) pe_int) pps_nil)))) (by rfl) (by rfl) (fun z => by cases z) (by decide)))), ?_⟩
    obtain ⟨ms, em, lm⟩ := cutV_ints ns none (some 63)
    refine fun D nD => ?_
    have sD := same_new (o := .dK []) nD
    have hD : (upd H D (.dK [])) D = some (.dK []) := upd_same
    generalize upd H D (.dK []) = H1 at sD hD
    have hS1 : SqL K H1 a (ns.map V.int) := sD.seq hS
    refine ⟨.ref a, rfl, 63, rfl, a, _, rfl, hS1, fun p1 n1 => ⟨p1, _, rfl, .inl (SqL.of upd_same), fun p2 n2 => ?_⟩⟩
    rw [em] at n2 ⊢
    have s1 : Same H1 (upd H1 p1 (.lst (ms.map V.int))) := same_new n1
    have s2 := s1.trans (same_new (o := .lst (ms.map V.int)) n2)
    have h2 : (upd (upd H1 p1 (.lst (ms.map V.int))) p2 (.lst (ms.map V.int))) p2 = some (.lst (ms.map V.int)) := upd_same
    have f2 : H p2 = none := (sD.trans s1).free n2
    generalize upd (upd H1 p1 (.lst (ms.map V.int))) p2 (.lst (ms.map V.int)) = H2 at s2 h2
    refine ⟨.ref a, rfl, 63, rfl, a, _, rfl, s2.seq hS1, fun p3 n3 => ?_⟩
    rw [em]
    have s3 := same_new (o := .lst (ms.map V.int)) n3
    have h3 : (upd H2 p3 (.lst (ms.map V.int))) p3 = some (.lst (ms.map V.int)) := upd_same
    generalize upd H2 p3 (.lst (ms.map V.int)) = H3 at s3 h3
    refine ⟨p3, ms, rfl, SqL.of h3, _, _, rfl, rfl, show (0 : Int) < 2147483629 by decide, _, _, rfl, rfl, ?_⟩
    have hD3 := s3 _ _ (s2 _ _ hD)
    have h23 := s3 _ _ h2
    have s03 := (sD.trans s2).trans s3
    have r := mod_rng (a := ms.sum) (m := 2147483629) (by decide)
    refine ⟨hD3, dkv p2 0 0 _, rfl, by show 4 ≤ 15; decide, ?_⟩
    rw [dkv_new]
    exact q D p2 _ (Same.mutD (sD.trans (s2.trans s3)) nD) nD f2 ⟨ms, _, ((0 : Int), (0 : Int)), upd_same, by rw [upd_ne (ne_of h23 hD3 (by intro z; cases z))]; exact h23, by omega, by show (0 : Int) ≤ 0; decide, by show (0 : Int) ≤ _; omega, by omega, by omega⟩
/-! ### webs -/
structure Tie where
  one : Int
  other : Int
  foe : Bool
def kindS : Bool → Str
  | true => "foe"
  | false => "friend"
def TieV (H : Hp) (v : V) (t : Tie) : Prop := ∃ a, v = .ref a ∧ H a = some (.tup [.int t.one, .int t.other, .str (kindS t.foe)])
def TieOk (n : Int) (t : Tie) : Prop := 0 ≤ t.one ∧ t.one < n ∧ 0 ≤ t.other ∧ t.other < n ∧ t.one ≠ t.other
def WebAt (H : Hp) (v : V) (n : Int) (ts : List Tie) : Prop := ∃ a b vs, v = .ref a ∧ H a = some (.tup [.int n, .ref b]) ∧ H b = some (.tup vs) ∧ Paired (TieV H) vs ts
structure WebOk (n : Int) (ts : List Tie) : Prop where
  lo : 1 ≤ n
  hi : n ≤ 40
  few : ts.length ≤ 120
  ok : ∀ t ∈ ts, TieOk n t
/-- tuples stay -/
def Tk (H H' : Hp) : Prop := ∀ b xs, H b = some (.tup xs) → H' b = some (.tup xs)
theorem Tk.trans {H H1 H2 : Hp} (a : Tk H H1) (b : Tk H1 H2) : Tk H H2 := fun x xs h => b x xs (a x xs h)
theorem Same.tk {H H' : Hp} (s : Same H H') : Tk H H' := fun b xs h => s b _ h
theorem tk_lst {H : Hp} {l : Addr} {xs ys : List V} (h : H l = some (.lst xs)) : Tk H (upd H l (.lst ys)) := fun b zs e => by
  rw [upd_ne (ne_of e h (by intro z; cases z))]
  exact e
theorem TieV.tk {H H' : Hp} (k : Tk H H') {v : V} {t : Tie} (h : TieV H v t) : TieV H' v t := by
  obtain ⟨a, rfl, e⟩ := h
  exact ⟨a, rfl, k _ _ e⟩
theorem ties_tk {H H' : Hp} (k : Tk H H') {vs : List V} {ts : List Tie} (h : Paired (TieV H) vs ts) : Paired (TieV H') vs ts := Paired.mono (fun _ _ x => x.tk k) h
theorem WebAt.tk {H H' : Hp} (k : Tk H H') {v : V} {n : Int} {ts : List Tie} (h : WebAt H v n ts) : WebAt H' v n ts := by
  obtain ⟨a, b, vs, rfl, h1, h2, h3⟩ := h
  exact ⟨a, b, vs, rfl, k _ _ h1, k _ _ h2, ties_tk k h3⟩
theorem Kp.tk {d c : Addr} {H H' : Hp} (k : Kp d c H H') (D : Deck H d c) : Tk H H' := fun b xs e => by
  obtain ⟨cells, st, n, h1, h2, _⟩ := D
  exact k b _ (ne_of e h1 (by intro z; cases z)) (ne_of e h2 (by intro z; cases z)) e
theorem Kp.mut {d c l : Addr} {H H' : Hp} {o : HO} (k : Kp d c H H') (h : H l = none) : Kp d c H (upd H' l o) := fun b u h1 h2 e => by
  rw [upd_ne (ne_of_none e h)]
  exact k b u h1 h2 e
theorem Deck.mut {H : Hp} {d c l : Addr} {o : HO} (D : Deck H d c) (h1 : l ≠ d) (h2 : l ≠ c) : Deck (upd H l o) d c := by
  obtain ⟨cells, st, n, e1, e2, e3⟩ := D
  exact ⟨cells, st, n, by rw [upd_ne (Ne.symm h1)]; exact e1, by rw [upd_ne (Ne.symm h2)]; exact e2, e3⟩
theorem Deck.new {H : Hp} {d c l : Addr} {o : HO} (D : Deck H d c) (h : H l = none) : Deck (upd H l o) d c := D.same (same_new h)
theorem Deck.ned {H : Hp} {d c l : Addr} (D : Deck H d c) (h : H l = none) : l ≠ d ∧ l ≠ c := by
  obtain ⟨cells, st, n, e1, e2, e3⟩ := D
  exact ⟨(ne_of_none e1 h).symm, (ne_of_none e2 h).symm⟩
theorem Paired.at {α β : Type} {F : α → β → Prop} : ∀ {l : List α} {m : List β} {i : Nat} {a : α}, Paired F l m → l[i]? = some a → ∃ b, m[i]? = some b ∧ F a b
  | _, _, _, _, .nil, e => by simp at e
  | _, _, 0, _, .cons r _, e => by simp at e; subst e; exact ⟨_, rfl, r⟩
  | _, _, i + 1, a, .cons _ t, e => by
    obtain ⟨u, h1, h2⟩ := Paired.at (i := i) (a := a) t (by simpa using e)
    exact ⟨u, by simpa using h1, h2⟩
theorem Paired.at' {α β : Type} {F : α → β → Prop} : ∀ {l : List α} {m : List β} {i : Nat} {b : β}, Paired F l m → m[i]? = some b → ∃ a, l[i]? = some a ∧ F a b
  | _, _, _, _, .nil, e => by simp at e
  | _, _, 0, _, .cons r _, e => by simp at e; subst e; exact ⟨_, rfl, r⟩
  | _, _, i + 1, b, .cons _ t, e => by
    obtain ⟨u, h1, h2⟩ := Paired.at' (i := i) (b := b) t (by simpa using e)
    exact ⟨u, by simpa using h1, h2⟩
theorem getI {α : Type} {xs : List α} {i : Int} (h0 : 0 ≤ i) (h1 : i < (xs.length : Int)) : ∃ v, atI xs i = some v ∧ xs[i.toNat]? = some v := by
  obtain ⟨j, rfl⟩ : ∃ j : Nat, i = (j : Int) := ⟨i.toNat, by omega⟩
  have h2 : j < xs.length := by omega
  exact ⟨xs[j], atI_nat (List.getElem?_eq_getElem h2), by rw [Int.toNat_natCast]; exact List.getElem?_eq_getElem h2⟩
theorem other_ne {n a b : Int} (h0 : 0 ≤ a) (h1 : a < n) (g0 : 0 ≤ b) (g1 : b < n - 1) : a ≠ (a + 1 + b) % n := by
  by_cases h : a + 1 + b < n
  · rw [Int.emod_eq_of_lt (by omega) h]
    omega
  · have e : a + 1 + b = (a + 1 + b - n) + 1 * n := by omega
    rw [e, Int.add_mul_emod_self_right, Int.emod_eq_of_lt (by omega) (by omega)]
    omega
theorem pick2 {α : Type} (a b : α) (k : Bool) : atI [a, b] (if k then 1 else 0) = some (if k then b else a) := by
  cases k <;> rfl
def spWeb : Sp := fun vs H Q _ => ∃ (d c : Addr), vs = [.ref d] ∧ Deck H d c ∧
  ∀ v n ts H', WebAt H' v n ts → WebOk n ts → Deck H' d c → Kp d c H H' → Q v H'
end
/-! ### tuples cut and put together -/
section
variable {X : Cx}
theorem cutV_whole {xs : List V} {lo hi : Option Int} (h : HT.sIx xs.length 0 lo = 0 ∧ HT.sIx xs.length xs.length hi = xs.length) : cutV xs lo hi = xs := by
  unfold cutV
  rw [h.1, h.2]
  simp
def rSlU : V → Option Int → Option Int → Hp → VK → Prop := fun x lo hi H Q => ∃ a xs, x = .ref a ∧ H a = some (.tup xs) ∧ ∀ r H', Same H H' → H' r = some (.tup (cutV xs lo hi)) → Q (.ref r) H'
theorem sl_tupU : SlR X rSlU := by
  intro pins s σ H x v vl vu lo hi sl Q I rx hs pl pu h
  obtain ⟨a, xs, rfl, hx, q⟩ := h
  refine sl_tupA pins s σ H _ v vl vu lo hi sl Q I rx hs pl pu ⟨a, xs, rfl, SqT.of hx, fun hw => ?_, fun _ p np => ?_⟩
  · exact q a H (Same.refl H) (by rw [cutV_whole hw]; exact hx)
  · exact q p _ (same_new np) upd_same
def rCatU : R2 := fun x y H Q => ∃ a b xs ys, x = .ref a ∧ y = .ref b ∧ H a = some (.tup xs) ∧ H b = some (.tup ys) ∧ xs.length + ys.length ≤ 100000 ∧ ∀ r H', Same H H' → H' r = some (.tup (xs ++ ys)) → Q (.ref r) H'
theorem op_catU : OpR X (binaryOp .Add) rCatU := by
  intro pins s σ H x y v u Q I rx ry h
  obtain ⟨a, b, xs, ys, rfl, rfl, ha, hb, hz, q⟩ := h
  refine op_catA pins s σ H _ _ v u Q I rx ry ⟨a, b, xs, ys, rfl, rfl, SqT.of ha, SqT.of hb, Evl.sz_of hz, fun e => ?_, fun _ e => ?_, fun _ _ p np => ?_⟩
  · subst e
    exact q b H (Same.refl H) hb
  · subst e
    exact q a H (Same.refl H) (by rw [List.append_nil]; exact ha)
  · exact q p _ (same_new np) upd_same
end
/-! ### things of any kind -/
/-- its kind is known -/
def Kn (H : Hp) : V → Prop
  | .non => True
  | .bl _ => True
  | .int _ => True
  | .str _ => True
  | .ref a => (∃ xs, H a = some (.lst xs)) ∨ (∃ xs, H a = some (.tup xs)) ∨ ∃ kvs, H a = some (.dK kvs)
  | _ => False
def isI : V → Bool
  | .int _ => true
  | .bl _ => true
  | _ => false
def isB : V → Bool
  | .bl _ => true
  | _ => false
def isW : V → Bool
  | .int _ => true
  | _ => false
def isT (H : Hp) : V → Bool
  | .ref a => match H a with
    | some (.tup _) => true
    | _ => false
  | _ => false
section
variable {K : PySem.W.Frag} {H : Hp}
theorem kn_int {v : V} (h : Kn H v) : ∃ t, TyX K H v t ∧ PySem.W.kitOne K t (.type "int") = some (isI v) := by
  cases v with
  | non => exact ⟨_, .base .non, kit_ty (r := false) (by decide +kernel)⟩
  | bl b => exact ⟨_, .base (.bl b), kit_ty (r := true) (by decide +kernel)⟩
  | int i => exact ⟨_, .base (.int i), kit_ty (r := true) (by decide +kernel)⟩
  | str x => exact ⟨_, .base (.str x), kit_ty (r := false) (by decide +kernel)⟩
  | ref a =>
    rcases h with ⟨xs, h⟩ | ⟨xs, h⟩ | ⟨xs, h⟩
    · exact ⟨_, .base (.lst h), kit_ty (r := false) (by decide +kernel)⟩
    · exact ⟨_, .base (.tup h), kit_ty (r := false) (by decide +kernel)⟩
    · exact ⟨_, .base (.dK h), kit_ty (r := false) (by decide +kernel)⟩
  | byt b => exact h.elim
  | flt b => exact h.elim
  | ty n => exact h.elim
theorem kn_bool {v : V} (h : Kn H v) : ∃ t, TyX K H v t ∧ PySem.W.kitOne K t (.type "bool") = some (isB v) := by
  cases v with
  | non => exact ⟨_, .base .non, kit_ty (r := false) (by decide +kernel)⟩
  | bl b => exact ⟨_, .base (.bl b), kit_ty (r := true) (by decide +kernel)⟩
  | int i => exact ⟨_, .base (.int i), kit_ty (r := false) (by decide +kernel)⟩
  | str x => exact ⟨_, .base (.str x), kit_ty (r := false) (by decide +kernel)⟩
  | ref a =>
    rcases h with ⟨xs, h⟩ | ⟨xs, h⟩ | ⟨xs, h⟩
    · exact ⟨_, .base (.lst h), kit_ty (r := false) (by decide +kernel)⟩
    · exact ⟨_, .base (.tup h), kit_ty (r := false) (by decide +kernel)⟩
    · exact ⟨_, .base (.dK h), kit_ty (r := false) (by decide +kernel)⟩
  | byt b => exact h.elim
  | flt b => exact h.elim
  | ty n => exact h.elim
theorem kn_tup {v : V} (h : Kn H v) : ∃ t, TyX K H v t ∧ PySem.W.kitOne K t (.type "tuple") = some (isT H v) := by
  cases v with
  | non => exact ⟨_, .base .non, kit_ty (r := false) (by decide +kernel)⟩
  | bl b => exact ⟨_, .base (.bl b), kit_ty (r := false) (by decide +kernel)⟩
  | int i => exact ⟨_, .base (.int i), kit_ty (r := false) (by decide +kernel)⟩
  | str x => exact ⟨_, .base (.str x), kit_ty (r := false) (by decide +kernel)⟩
  | ref a =>
    unfold isT
    rcases h with ⟨xs, h⟩ | ⟨xs, h⟩ | ⟨xs, h⟩
    · exact ⟨_, .base (.lst h), by simp only [h]; exact kit_ty (r := false) (by decide +kernel)⟩
    · exact ⟨_, .base (.tup h), by simp only [h]; exact kit_ty (r := true) (by decide +kernel)⟩
    · exact ⟨_, .base (.dK h), by simp only [h]; exact kit_ty (r := false) (by decide +kernel)⟩
  | byt b => exact h.elim
  | flt b => exact h.elim
  | ty n => exact h.elim
theorem isT_at {v : V} (h : isT H v = true) : ∃ a xs, v = .ref a ∧ H a = some (.tup xs) := by
  cases v with
  | ref a =>
    unfold isT at h
    cases e : H a with
    | none => simp only [e] at h; cases h
    | some o =>
      cases o with
      | tup xs => exact ⟨a, xs, rfl, e⟩
      | _ => simp only [e] at h; cases h
  | _ => cases h
theorem isT_of {a : Addr} {xs : List V} (h : H a = some (.tup xs)) : isT H (.ref a) = true := by
  unfold isT
  simp only [h]
end
section
variable {P : Program} {w : World} {K : PySem.W.Frag} {mg : Str → Option Value} {base : Heap}
def spWhole : Sp := fun vs H Q _ => ∃ v, vs = [v] ∧ Kn H v ∧ Q (.bl (isW v)) H
theorem and_whole {v : V} : (isI v && !isB v) = isW v := by cases v <;> rfl
theorem ok_is_whole {f : Addr} {fd : FuncData} (F : Fun K "is_whole" "is_whole" s_is_whole f fd) (M : Free mg) : FnOk P w K mg base CX0 1 f fd ["thing"] spWhole := by
  refine F.ok sc_is_whole (fun vs H Q E h => ?_) (fun cdv A outer s H vs Q E hr h => ?_)
  · obtain ⟨v, rfl, _⟩ := h
    rfl
  · obtain ⟨v, rfl, hk, q⟩ := h
    refine ⟨_, (pss_one (ps_ret (pe_and (pe_callB call_isi (by rfl) M.isinstance (by decide +kernel) (pa_cons (pv 0) (pa_cons (pe_bltn (v := .ty "int") (by rfl) M.int (by decide +kernel) rfl) pa_nil))) (pe_one (pe_not (pe_callB call_isi (by rfl) M.isinstance (by decide +kernel) (pa_cons (pv 0) (pa_cons (pe_bltn (v := .ty "bool") (by rfl) M.bool (by decide +kernel) rfl) pa_nil)))))))), ?_⟩
    obtain ⟨t1, h1, e1⟩ := kn_int (K := K) hk
    obtain ⟨t2, h2, e2⟩ := kn_bool (K := K) hk
    refine ⟨v, rfl, v, _, t1, _, _, rfl, .ty "int", h1, e1, _, rfl, ?_⟩
    rw [← and_whole] at q
    cases hi : isI v with
    | false =>
      rw [hi] at q
      exact q
    | true =>
      rw [hi] at q
      exact ⟨v, rfl, v, _, t2, _, _, rfl, .ty "bool", h2, e2, _, rfl, q⟩
def wfrom (lo : Int) : V → Bool
  | .int i => decide (lo ≤ i)
  | _ => false
def spFrom : Sp := fun vs H Q _ => ∃ lo v, vs = [.int lo, v] ∧ Kn H v ∧ Q (.bl (wfrom lo v)) H
theorem ok_is_whole_from {f : Addr} {fd : FuncData} (F : Fun K "is_whole_from" "is_whole_from" s_is_whole_from f fd) (Dw : Df P w K mg base 1 "is_whole" ["thing"] spWhole) : FnOk P w K mg base CX0 2 f fd ["low", "thing"] spFrom := by
  obtain ⟨fW, fdW, GW, gW, kW, bW⟩ := Dw
  refine F.ok sc_is_whole_from (fun vs H Q E h => ?_) (fun cdv A outer s H vs Q E hr h => ?_)
  · obtain ⟨lo, v, rfl, _⟩ := h
    rfl
  · obtain ⟨lo, v, rfl, hk, q⟩ := h
    refine ⟨_, (pss_one (ps_ret (pe_and (pe_call GW hr (by rfl) gW kW bW .nil pass0 (pa_cons (pv 1) pa_nil)) (pe_one (pe_cmpR op_ge (pv 1) (pv 0) (nomark _)))))), ?_⟩
    refine ⟨v, rfl, v, rfl, hk, _, rfl, ?_⟩
    cases v with
    | int i => exact ⟨.int i, rfl, .int lo, rfl, i, lo, rfl, rfl, q⟩
    | _ => exact q
/-- the parts of a tuple -/
def parts (H : Hp) : V → Option (List V)
  | .ref a => match H a with
    | some (.tup xs) => some xs
    | _ => none
  | _ => none
theorem parts_of' {H : Hp} {a : Addr} {xs : List V} (h : H a = some (.tup xs)) : parts H (.ref a) = some xs := by
  unfold parts
  simp only [h]
theorem parts_none {H : Hp} {v : V} (h : isT H v = false) : parts H v = none := by
  cases v with
  | ref a =>
    unfold isT at h
    unfold parts
    cases e : H a with
    | none => simp only [e]
    | some o =>
      cases o with
      | tup xs => simp only [e] at h; cases h
      | _ => simp only [e]
  | _ => rfl
def lenIs (H : Hp) (v : V) (n : Int) : Bool := match parts H v with
  | some xs => decide ((xs.length : Int) = n)
  | none => false
def spTupleOf : Sp := fun vs H Q _ => ∃ n v, vs = [.int n, v] ∧ Kn H v ∧ Q (.bl (lenIs H v n)) H
theorem dec_int (a b : Int) : decide (V.int a = V.int b) = decide (a = b) := by
  by_cases h : a = b
  · rw [decide_eq_true h, h, decide_eq_true rfl]
  · rw [decide_eq_false h, decide_eq_false (fun z => h (V.int.inj z))]
theorem ok_is_tuple_of {f : Addr} {fd : FuncData} (F : Fun K "is_tuple_of" "is_tuple_of" s_is_tuple_of f fd) (M : Free mg) : FnOk P w K mg base CX0 1 f fd ["length", "thing"] spTupleOf := by
  refine F.ok sc_is_tuple_of (fun vs H Q E h => ?_) (fun cdv A outer s H vs Q E hr h => ?_)
  · obtain ⟨n, v, rfl, _⟩ := h
    rfl
  · obtain ⟨n, v, rfl, hk, q⟩ := h
    refine ⟨_, (pss_one (ps_ret (pe_and (pe_callB call_isi (by rfl) M.isinstance (by decide +kernel) (pa_cons (pv 1) (pa_cons (pe_bltn (v := .ty "tuple") (by rfl) M.tuple (by decide +kernel) rfl) pa_nil))) (pe_one (pe_cmpR op_eq (pe_callB call_len_seq (by rfl) M.len PySem.boot_len (pa_cons (pv 1) pa_nil)) (pv 0) (nomark _)))))), ?_⟩
    obtain ⟨t1, h1, e1⟩ := kn_tup (K := K) hk
    refine ⟨v, rfl, v, _, t1, _, _, rfl, .ty "tuple", h1, e1, _, rfl, ?_⟩
    unfold lenIs at q
    cases hi : isT H v with
    | false =>
      rw [parts_none hi] at q
      exact q
    | true =>
      obtain ⟨a, xs, rfl, e⟩ := isT_at hi
      rw [parts_of' e] at q
      refine ⟨.ref a, rfl, a, xs, rfl, .inr (SqT.of e), .int n, rfl, rfl, ?_⟩
      rw [dec_int]
      exact q
/-! ### a def whose code object stands at c: its own table is at Pt -/
structure FunC (K : PySem.W.Frag) (x qual : Str) (st : Stmt) (f : Addr) (fd : FuncData) (c : Addr) : Prop where
  ex : ∃ (oc : Value) (od : Option Addr) (kV doc pm : Value) (an : Option Addr) (ct : Value) (osl : Array (Option Value)),
    fd = PySem.W.fnOf x qual (defArgs st) (defBody st) (defScope st) .none kV doc pm an (.ref c) ct ∧ K.lookup f = some ⟨oc, od, .func fd, osl⟩ ∧ PySem.W.codeIn K (.ref c) qual = true
  kp : PySem.W.keepIn K (.ref f) = true
theorem FunC.ok {x qual : Str} {st : Stmt} {f c : Addr} {fd : FuncData} {N ps : List Str} {k : Nat} {sp : Sp} (F : FunC K x qual st f fd c) (S : FnScope N ps (defScope st)) (len : ∀ vs H Q E, sp vs H Q E → vs.length = ps.length)
    (hbody : ∀ (A : Around) (outer : List Env) (s : Shared) (H : Hp) (vs : List V) (Q : VK) (E : XK), Room k (A.deeper (envOfC qual (defScope st) s.heap.objs.size f (.ref c))) → sp vs H Q E →
      ∃ t, PSs (cxOf CX0 P w K mg base N qual (defScope st) f (.ref c) A outer s H E).nox (defBody st) t ∧ t { nx := fun _ H' => Q .non H', rt := Q } (start N vs) H) : FnOk P w K mg base CX0 (k + 1) f fd ps sp := by
  obtain ⟨oc, od, kV, doc, pm, an, ct, osl, rfl, lk, hcd⟩ := F.ex
  refine fn_of lk hcd S len fun A outer s H vs Q E hr hsp => ?_
  obtain ⟨t, h, q⟩ := hbody A outer s H vs Q E hr hsp
  exact ⟨t, h.nox, q⟩
theorem FunC.fn {x qual : Str} {st : Stmt} {f c : Addr} {fd : FuncData} (F : FunC K x qual st f fd c) : Fun K x qual st f fd := by
  obtain ⟨oc, od, kV, doc, pm, an, ct, osl, rfl, lk, hcd⟩ := F.ex
  exact ⟨⟨oc, od, kV, doc, pm, an, _, ct, osl, rfl, lk, hcd⟩, F.kp⟩
theorem parts_at {H : Hp} {v : V} {xs : List V} (h : parts H v = some xs) : ∃ a, v = .ref a ∧ H a = some (.tup xs) := by
  cases v with
  | ref a =>
    unfold parts at h
    cases e : H a with
    | none => simp only [e] at h; cases h
    | some o =>
      cases o with
      | tup ys => simp only [e] at h; cases h; exact ⟨a, rfl, e⟩
      | _ => simp only [e] at h; cases h
  | _ => cases h
end
/-! ### all but the tables is kept -/
structure Kt (Ps : List Addr) (H H' : Hp) : Prop where
  tab : ∀ P ∈ Ps, GxR.TabG H' P
  keep : ∀ b o, b ∉ Ps → H b = some o → H' b = some o
def Tabs (Ps : List Addr) (H : Hp) : Prop := ∀ P ∈ Ps, GxR.TabG H P
theorem Kt.refl {Ps : List Addr} {H : Hp} (h : Tabs Ps H) : Kt Ps H H := ⟨h, fun _ _ _ e => e⟩
theorem Kt.trans {Ps : List Addr} {H H1 H2 : Hp} (a : Kt Ps H H1) (b : Kt Ps H1 H2) : Kt Ps H H2 := ⟨b.tab, fun x o h e => b.keep x o h (a.keep x o h e)⟩
theorem Kt.same {Ps : List Addr} {H H' : Hp} (h : Tabs Ps H) (s : Same H H') : Kt Ps H H' := ⟨fun P hP => by obtain ⟨ps, e, t⟩ := h P hP; exact ⟨ps, s _ _ e, t⟩, fun b o _ e => s b o e⟩
theorem Kt.tabbed {Ps : List Addr} {P : Addr} {H H' : Hp} (h : Tabs Ps H) (hP : P ∈ Ps) (t : GxR.Tabbed P H H') : Kt Ps H H' := by
  refine ⟨fun Q hQ => ?_, fun b o hb e => ?_⟩
  · by_cases e : Q = P
    · rw [e]
      exact t.1
    · obtain ⟨ps, e1, t1⟩ := h Q hQ
      exact ⟨ps, by rw [t.2 Q e]; exact e1, t1⟩
  · rw [t.2 b (fun z => hb (by rw [z]; exact hP))]
    exact e
theorem Tabs.out {Ps : List Addr} {H : Hp} {a : Addr} {o : HO} (t : Tabs Ps H) (h : H a = some o) (no : ∀ ps, o ≠ .tbl ps) : a ∉ Ps := fun z => by
  obtain ⟨ps, e, _⟩ := t a z
  rw [e] at h
  cases h
  exact no _ rfl
theorem Kt.tup {Ps : List Addr} {a : Addr} {H H' : Hp} {xs : List V} (k : Kt Ps H H') (t : Tabs Ps H) (h : H a = some (.tup xs)) : H' a = some (.tup xs) := k.keep a _ (t.out h fun _ z => by cases z) h
theorem Kt.lst {Ps : List Addr} {a : Addr} {H H' : Hp} {xs : List V} (k : Kt Ps H H') (t : Tabs Ps H) (h : H a = some (.lst xs)) : H' a = some (.lst xs) := k.keep a _ (t.out h fun _ z => by cases z) h
theorem Kt.dct {Ps : List Addr} {a : Addr} {H H' : Hp} {xs : List (Key × V)} (k : Kt Ps H H') (t : Tabs Ps H) (h : H a = some (.dK xs)) : H' a = some (.dK xs) := k.keep a _ (t.out h fun _ z => by cases z) h
theorem Kt.tk {Ps : List Addr} {H H' : Hp} (k : Kt Ps H H') (t : Tabs Ps H) : Tk H H' := fun _ _ e => k.tup t e
theorem Kt.kn {Ps : List Addr} {H H' : Hp} (k : Kt Ps H H') (t : Tabs Ps H) {v : V} (h : Kn H v) : Kn H' v := by
  cases v with
  | ref a =>
    rcases h with ⟨xs, h⟩ | ⟨xs, h⟩ | ⟨xs, h⟩
    · exact .inl ⟨xs, k.lst t h⟩
    · exact .inr (.inl ⟨xs, k.tup t h⟩)
    · exact .inr (.inr ⟨xs, k.dct t h⟩)
  | _ => exact h
theorem Kt.deck {Ps : List Addr} {d c : Addr} {H H' : Hp} (k : Kt Ps H H') (t : Tabs Ps H) (D : Deck H d c) : Deck H' d c := by
  obtain ⟨cells, st, n, e1, e2, e3⟩ := D
  exact ⟨cells, st, n, k.dct t e1, k.lst t e2, e3⟩
/-! ### x in t of data of any depth -/
def rInT (K : PySem.W.Frag) : R2 := fun x y H Q => ∃ d ds, Dp K H x d ∧ Dp K H y (.tuple ds) ∧ SeqAt.shaped d = true ∧ SeqAt.shaped (.tuple ds) = true ∧ Q (.bl (ds.any fun z => PyData.eqv z d)) H
theorem op_inTup {X : Cx} (hu : X.A.units + 65 < cLine) : OpR X (compareOp .In) (rInT X.K) := by
  intro pins s σ H x y v u Q I rx ry want
  obtain ⟨d, ds, hd, he, sd, se, q⟩ := want
  obtain ⟨as, r1⟩ := Dp.reads I d x v hd rx
  obtain ⟨bs, r2⟩ := Dp.reads I (.tuple ds) y u he ry
  have lay : PyData.canLayAll0 ds = true := by
    have z := SeqAt.canLay_of_shaped se
    rw [PyData.canLay0] at z
    exact z
  have deep := SeqAt.depth_of_shaped sd
  exact SeqAt.in_tuple_reads r2 r1 lay (SeqAt.canLay_of_shaped sd) (by omega) ⟨.bl _, H, I, rfl, q⟩
/-! ### enumerate of a tuple -/
set_option maxHeartbeats 1000000 in
theorem meets_enumOne {v : Value} {o : Obj} {S : Heap → Prop} (B : Begins v o S) : Meets (Builtin.«enumerate.__new__» ⟨[.type "enumerate", v], []⟩) (fun _ R s => S s.heap ∧
      R (.ok (.ret (.ref (s.heap.push o).objs.size))) { s with heap := (s.heap.push o).push { cls := .type "enumerate", data := .fields #[.none, .bool false, .ref s.heap.objs.size, rawInt 0, .none, .none] } }) :=
  .of_wp fun prog w A R s h => by
    obtain ⟨hp, g, d, tk, os⟩ := s
    obtain ⟨h1, h⟩ := h
    have sub0 := sub_enumerate
    have begun : ∀ {A' : PySem.Around} {E : Value → Shared → Prop} {Q : Value → Shared → Prop}, Q (.ref hp.objs.size) ⟨hp.push o, g, d, tk, os⟩ → wpAny (model prog w) A' (pyIter v) Q E ⟨hp, g, d, tk, os⟩ := fun q => B.iter prog w _ _ ⟨hp, g, d, tk, os⟩ _ h1 q
    wp_walk using begun
    refine wpAny_stack_any fun st => wpAny_pure ?_
    split
    · rename_i c _ _ _ _ _
      cases (c == Value.type "enumerate")
      all_goals
        wp_walk using begun
        exact ⟨_, rfl, h⟩
    · wp_walk using begun
      exact ⟨_, rfl, h⟩
theorem call_enumT {P : Program} {w : World} {A : PySem.Around} {E : Value → Shared → Prop} {s : Shared} {t : Addr} {items : Array Value} {Q : Value → Shared → Prop} (ht : s.heap.IsTuple t items)
    (h : ∀ h', IsEnum h' (s.heap.objs.size + 1) s.heap.objs.size 0 .none → h'.IsTupleIter s.heap.objs.size t 0 → (∀ b o, s.heap.get? b = some o → h'.get? b = some o) → Q (.ref (s.heap.objs.size + 1)) { s with heap := h' }) : wpAny (model P w) A (call (.type "enumerate") [.ref t]) Q E s := by
  refine callType_new PySem.F.called_enumerate (by decide) (PySem.F.typeCall_enumerate_1 _) (PySem.F.newCall_enumerate_1 _) (fun ob => PySem.F.args_object_init_2 ob _) PySem.F.entry_enumerate_new (meets_enumOne (begins_tuple t items)) ⟨ht, ?_⟩
  have size1 := Heap.size_push s.heap { cls := .type "tuple_iterator", data := .fields #[.ref t, .int 0 0] }
  have en := Heap.get?_push_size (s.heap.push { cls := .type "tuple_iterator", data := .fields #[.ref t, .int 0 0] }) (o := { cls := .type "enumerate", data := .fields #[.none, .bool false, .ref s.heap.objs.size, rawInt 0, .none, .none] }) rfl
  rw [size1] at en
  show _ ∧ _
  rw [size1]
  exact ⟨⟨_, en, rfl⟩, h _ en ⟨_, Heap.get?_push_of_some _ (Heap.get?_push_size _ rfl), rfl, rfl⟩ fun b o e => Heap.get?_push_of_some _ (Heap.get?_push_of_some _ e)⟩
/-- the turns: a new pair each, of the number and the part -/
def ItN (K : PySem.W.Frag) (a : Addr) : It where
  go := fun i H => ∃ (xs : List V) (x : V), SqT K H a xs ∧ xs[i]? = some x
  yld := fun i H v H' => ∃ T x, v = .ref T ∧ H T = none ∧ H' = upd H T (.tup [.int (i : Nat), x]) ∧ ∀ xs, SqT K H a xs → xs[i]? = some x
  stop := fun i H => ∃ xs : List V, SqT K H a xs ∧ xs.length ≤ i
theorem turn_enumT {P : Program} {w : World} {K : PySem.W.Frag} {elts : List Expr} {kk : Nat} {tpos : Pos} (a e it : Addr) (n1 : e ≠ it) (n2 : a ≠ it) (n3 : e ≠ a) :
    Turn P w K (.Tuple elts kk tpos) (ItN K a) [e, it] e (fun i h => (∃ old, IsEnum h e it ((i : Nat) : Int) old) ∧ h.IsTupleIter it a i) where
  mem := List.mem_cons_self
  obj := by
    rintro i h ⟨⟨old, he⟩, o, ho, hc, hd⟩ b hb
    rcases List.mem_cons.mp hb with rfl | hb
    · exact ⟨_, he, fun v q => nomatch q⟩
    · rw [List.mem_singleton.mp hb]
      exact ⟨o, ho, fun v q => by rw [hd] at q; cases q⟩
  keep := by
    rintro i h h' ⟨⟨old, he⟩, hit⟩ kp
    exact ⟨⟨old, kp e (by simp) _ he⟩, hit.at fun o q => kp it (by simp) o q⟩
  item := by
    intro X hP hw hK hc i pins s σ H E I hf st hg
    subst hP hw hK
    obtain ⟨⟨old, he⟩, hit⟩ := st
    obtain ⟨xs, x, hq, hx⟩ := hg
    obtain ⟨its, rv, tup, _⟩ := I.tuple hq
    obtain ⟨u, hu, ru⟩ := rv.get hx
    have le := Heap.lt_size he
    have li : it < s.heap.objs.size := let ⟨_, q, _⟩ := hit; Heap.lt_size q
    have lt : i < its.toArray.size := by simpa using (List.getElem?_eq_some_iff.mp hu).1
    refine wpAny_pyNext_enum_itemD (Draws.tuple (A := X.A.in1) (I.ok.hd hc) it a n2 its.toArray) he ⟨hit, tup⟩ lt n1 (by simp [n1, n3]) fun x' h' tk ex out st' new _ kp => ?_
    obtain rfl : u = x' := Option.some.inj (((by simpa using hu) : its.toArray[i]? = some u).symm.trans ex)
    refine ⟨_, rfl, wpAny_letOwnedTupleGo_enum (s := { s with heap := h', toks := tk + 1 }) out fun h2 he2 sb => ?_⟩
    have new2 : h2.get? s.heap.objs.size = some { cls := .type "tuple", data := .seq #[.int i tk, u] } := (sb.2 _ (Nat.ne_of_gt le)).trans new
    have objT : ObjOk X.prog X.w (upd H s.heap.objs.size (.tup [.int (i : Nat), x])) h2 s.heap.objs.size (.tup [.int (i : Nat), x]) := ⟨by show 2 ≤ sizeLine; decide, [.int i tk, u], .cons ⟨_, rfl⟩ (.cons ru .nil), ⟨_, new2, rfl, _, rfl⟩⟩
    have J : Inv X pins σ (upd H s.heap.objs.size (.tup [.int (i : Nat), x])) { s with heap := h2, toks := tk + 1 } := I.turnedNew (ch := [e, it]) (fun b ob hb q => by
      simp only [List.mem_cons, List.not_mem_nil, or_false, not_or] at hb
      exact (sb.2 b hb.1).trans (kp b ob hb.1 hb.2 q)) hf (Nat.le_refl _) objT
    refine ⟨.ref s.heap.objs.size, _, J, rfl, ⟨_, x, rfl, I.hok.fresh (Nat.le_refl _), rfl, fun ys hy => by rw [I.tuple_inj hy hq]; exact hx⟩, ⟨⟨u, ?_⟩, st'.1.at fun o q => (sb.2 it (Ne.symm n1)).trans q⟩, fun b hb => ?_⟩
    · rw [show ((i + 1 : Nat) : Int) = (i : Int) + 1 from by omega]
      exact he2
    · have lb : b < s.heap.objs.size := by
        rcases List.mem_cons.mp hb with rfl | hb
        · exact le
        · rw [List.mem_singleton.mp hb]
          exact li
      rw [upd_ne (Nat.ne_of_lt lb)]
      exact (hf b hb).1
  done := by
    intro X hP hw hK hc i pins s σ H E I hf st hg
    subst hP hw hK
    obtain ⟨⟨old, he⟩, hit⟩ := st
    obtain ⟨xs, hq, hx⟩ := hg
    obtain ⟨its, rv, tup, _⟩ := I.tuple hq
    have hl := rv.length
    obtain ⟨f0, f1, f2, f3, f4, f5⟩ := hf it (by simp)
    have D : Draws X.prog X.w X.A.in1 it [it, a] i (fun _ _ => False) (fun j h => j = i ∧ h.IsTupleIter it a i ∧ h.IsTuple a its.toArray) := {
      live := fun j h z => let ⟨_, ⟨o, q, _⟩, _⟩ := z; ⟨o, q⟩
      frame := fun j h h' z kp => ⟨z.1, z.2.1.at fun o q => kp it (by simp) o q, z.2.2.at fun o q => kp a (by simp) o q⟩
      item := fun j s' Q E' hj z => absurd z.1 (Nat.ne_of_lt hj)
      done := fun s' Q E' z fin => wpAny_nextOf_tuple_end (I.ok.hd hc) z.2.1 z.2.2 (by simp; omega) fin }
    exact wpAny_pyNext_enum_endD D he ⟨rfl, hit, tup⟩ fun h' eb => ⟨rfl, I.turned (t' := s.toks) (fun b o hb q => eb b o hb q) f0 f1 f3 f4 f5⟩
  self := fun A i s Q E st h => let ⟨⟨_, he⟩, _⟩ := st; wpAny_pyIter_enum he h
def iEnT (K : PySem.W.Frag) (ta : TA) : TI := fun σ H R => ta σ H fun vs H1 => ∃ a xs, vs = [.ref a] ∧ SqT K H1 a xs ∧ R (ItN K a) H1
theorem pi_enumT {X : Cx} {e : Expr} {ta : TA} {p pos tpos : Pos} {elts : List Expr} {kk : Nat} (hg : Gl X "enumerate") (hm : X.mg "enumerate" = none) (ha : PA X [e] ta) (hs : starEach [e] X.env = [(false, eval e X.env)] := by rfl) :
    PI X (.Tuple elts kk tpos) (.Call (.Name "enumerate" p) [e] [] pos) (iEnT X.K ta) := by
  refine ⟨fun pins s σ H R I want => Call_ (ld_blt I hg hm boot_enumerate (PyProof.Rows.callWith_type1 (thn (ha.run pos pins s σ H _ I want) fun us s1 got => ?_) hs rfl))⟩
  obtain ⟨vs, H1, J, rel, a, xs, ex, hq, q⟩ := got
  subst ex
  obtain ⟨u, eu, r1⟩ := vals1 rel
  subst eu
  obtain rfl : u = Value.ref a := r1
  obtain ⟨its, rv, tup, _⟩ := J.tuple hq
  have la : a < s1.heap.objs.size := let ⟨_, q, _⟩ := tup; Heap.lt_size q
  refine call_enumT (items := its.toArray) tup fun h' he hit kp => wpAny_pyIter_enum he ?_
  have J2 : Inv X pins σ H1 { s1 with heap := h' } := J.kept (t' := s1.toks) kp
  refine ⟨s1.heap.objs.size + 1, [s1.heap.objs.size + 1, s1.heap.objs.size], _, _, H1, rfl, J2, turn_enumT a (s1.heap.objs.size + 1) s1.heap.objs.size (Nat.succ_ne_self _) (Nat.ne_of_lt la) (Nat.ne_of_gt (Nat.lt_succ_of_lt la)), ⟨⟨.none, he⟩, hit⟩, fun b hb => ?_, q⟩
  have lb : s1.heap.objs.size ≤ b := by
    rcases List.mem_cons.mp hb with rfl | hb
    · exact Nat.le_succ _
    · rw [List.mem_singleton.mp hb]
      exact Nat.le_refl _
  exact J.fpOk lb (J.hok.fresh lb)
theorem walk_enumT {K : PySem.W.Frag} {a : Addr} {xs : List V} : Walk (ItN K a) xs.length (fun H => SqT K H a xs) (YPair (fun i => some (.int (i : Nat))) (fun i => xs[i]?)) :=
  ⟨fun i H hi h => ⟨xs, xs[i], h, List.getElem?_eq_getElem hi⟩, fun H h => ⟨xs, h, Nat.le_refl _⟩, fun i H x H' hi h y => by
    obtain ⟨T, z, e1, e2, e3, e4⟩ := y
    exact ⟨T, _, z, e1, e2, e3, rfl, e4 xs h⟩⟩
/-! ### zip of three tuples of one length -/
def ItZ (K : PySem.W.Frag) (a b c : Addr) : It where
  go := fun i H => ∃ (xs ys zs : List V), (SqT K H a xs ∧ SqT K H b ys ∧ SqT K H c zs) ∧ i < xs.length ∧ ys.length = xs.length ∧ zs.length = xs.length
  yld := fun i H v H' => ∃ T x y z, v = .ref T ∧ H T = none ∧ H' = upd H T (.tup [x, y, z]) ∧ (∀ xs, SqT K H a xs → xs[i]? = some x) ∧ (∀ ys, SqT K H b ys → ys[i]? = some y) ∧ ∀ zs, SqT K H c zs → zs[i]? = some z
  stop := fun i H => ∃ (xs ys zs : List V), (SqT K H a xs ∧ SqT K H b ys ∧ SqT K H c zs) ∧ xs.length = i ∧ ys.length = i ∧ zs.length = i
theorem turn_zip3 {P : Program} {w : World} {K : PySem.W.Frag} {elts : List Expr} {kk : Nat} {tpos : Pos} {a b c z TI TO i1 i2 i3 : Addr} (S : ZipSep3 z TI TO i1 i2 i3 [i1, a] [i2, b] [i3, c]) (n1 : a ≠ i1) (n2 : b ≠ i2) (n3 : c ≠ i3) :
    Turn P w K (.Tuple elts kk tpos) (ItZ K a b c) [z, TI, TO, i1, i2, i3] z (fun i h => IsZip h z TI TO .none ∧ IsTupOf3 h TI (.ref i1) (.ref i2) (.ref i3) ∧ (∃ a1 a2 a3, IsTupOf3 h TO a1 a2 a3) ∧ h.IsTupleIter i1 a i ∧ h.IsTupleIter i2 b i ∧ h.IsTupleIter i3 c i) where
  mem := List.mem_cons_self
  obj := by
    rintro i h ⟨hz, hTI, ⟨a1, a2, a3, hTO⟩, ⟨o1, e1, _, d1⟩, ⟨o2, e2, _, d2⟩, ⟨o3, e3, _, d3⟩⟩ q hq
    simp only [List.mem_cons, List.not_mem_nil, or_false] at hq
    rcases hq with rfl | rfl | rfl | rfl | rfl | rfl
    · exact ⟨_, hz, fun v y => nomatch y⟩
    · exact ⟨_, hTI, fun v y => nomatch y⟩
    · exact ⟨_, hTO, fun v y => nomatch y⟩
    · exact ⟨o1, e1, fun v y => by rw [d1] at y; cases y⟩
    · exact ⟨o2, e2, fun v y => by rw [d2] at y; cases y⟩
    · exact ⟨o3, e3, fun v y => by rw [d3] at y; cases y⟩
  keep := by
    rintro i h h' ⟨hz, hTI, ⟨a1, a2, a3, hTO⟩, t1, t2, t3⟩ kp
    exact ⟨kp z (by simp) _ hz, kp TI (by simp) _ hTI, ⟨a1, a2, a3, kp TO (by simp) _ hTO⟩, t1.at fun o q => kp i1 (by simp) o q, t2.at fun o q => kp i2 (by simp) o q, t3.at fun o q => kp i3 (by simp) o q⟩
  item := by
    intro X hP hw hK hc i pins s σ H E I hf st hg
    subst hP hw hK
    obtain ⟨hz, hTI, hTO, t1, t2, t3⟩ := st
    obtain ⟨xs, ys, zs, ⟨qx, qy, qz⟩, hi, ly, lz⟩ := hg
    obtain ⟨us, ru, tu, _⟩ := I.tuple qx
    obtain ⟨vs, rv, tv, _⟩ := I.tuple qy
    obtain ⟨ws, rw', tw, _⟩ := I.tuple qz
    have lu := ru.length
    have lv := rv.length
    have lw := rw'.length
    obtain ⟨u, hu, eu⟩ := ru.get (List.getElem?_eq_getElem hi)
    obtain ⟨v, hv, ev⟩ := rv.get (List.getElem?_eq_getElem (show i < ys.length by omega))
    obtain ⟨w', hw, ew⟩ := rw'.get (List.getElem?_eq_getElem (show i < zs.length by omega))
    have W := WalksT.zipD3 (A := X.A) S (Draws.tuple (prog := X.prog) (w := X.w) (A := X.A.in1) (I.ok.hd hc) i1 a n1 us.toArray) (Draws.tuple (prog := X.prog) (w := X.w) (A := X.A.in1) (I.ok.hd hc) i2 b n2 vs.toArray) (Draws.tuple (prog := X.prog) (w := X.w) (A := X.A.in1) (I.ok.hd hc) i3 c n3 ws.toArray)
    refine W.item i s _ _ (by simp only [List.size_toArray]; omega) ⟨hz, hTI, hTO, ⟨t1, tu⟩, ⟨t2, tv⟩, ⟨t3, tw⟩⟩ fun T vals h' tk hp newT isT mid kp => ?_
    obtain ⟨y1, y2, y3, p1, p2, p3, rfl⟩ := hp
    have apart := W.apart i T h' mid
    obtain rfl : u = y1 := Option.some.inj (((by simpa using hu) : us.toArray[i]? = some u).symm.trans p1)
    obtain rfl : v = y2 := Option.some.inj (((by simpa using hv) : vs.toArray[i]? = some v).symm.trans p2)
    obtain rfl : w' = y3 := Option.some.inj (((by simpa using hw) : ws.toArray[i]? = some w').symm.trans p3)
    refine ⟨_, rfl, W.go elts kk tpos i T { s with heap := h', toks := tk } _ _ mid fun h2 st2 kp2 => ?_⟩
    obtain ⟨g1, g2, g3, ⟨g4, _⟩, ⟨g5, _⟩, ⟨g6, _⟩⟩ := st2
    have objT : ObjOk X.prog X.w (upd H T (.tup [xs[i], ys[i], zs[i]])) h2 T (.tup [xs[i], ys[i], zs[i]]) := by
      obtain ⟨ot, et, ct, nt, dt⟩ := isT
      exact ⟨by show 3 ≤ sizeLine; decide, [u, v, w'], .cons eu (.cons ev (.cons ew .nil)), ⟨ot, kp2 _ _ apart et, ct, nt, dt⟩⟩
    have J : Inv X pins σ (upd H T (.tup [xs[i], ys[i], zs[i]])) { s with heap := h2, toks := tk } := I.turnedNew (ch := [z, TI, TO, i1, i2, i3]) (fun q ob hq e => by
      simp only [List.mem_cons, List.not_mem_nil, or_false, not_or] at hq
      have nw : q ∉ [z, TO, i1, i2, i3] := by simp [hq]
      exact kp2 q ob nw (kp q ob nw e)) hf newT objT
    refine ⟨.ref T, _, J, rfl, ⟨T, _, _, _, rfl, I.hok.fresh newT, rfl, fun l hl => by rw [I.tuple_inj hl qx]; exact List.getElem?_eq_getElem hi, fun l hl => by rw [I.tuple_inj hl qy]; exact List.getElem?_eq_getElem _, fun l hl => by rw [I.tuple_inj hl qz]; exact List.getElem?_eq_getElem _⟩, ⟨g1, g2, g3, g4, g5, g6⟩, fun q hq => ?_⟩
    have lq : q < s.heap.objs.size := by
      obtain ⟨_, _, ⟨a1, a2, a3, hTO⟩⟩ := (⟨hz, hTI, hTO⟩ : _ ∧ _ ∧ _)
      obtain ⟨o1, e1, _⟩ := t1
      obtain ⟨o2, e2, _⟩ := t2
      obtain ⟨o3, e3, _⟩ := t3
      simp only [List.mem_cons, List.not_mem_nil, or_false] at hq
      rcases hq with rfl | rfl | rfl | rfl | rfl | rfl
      · exact Heap.lt_size hz
      · exact Heap.lt_size hTI
      · exact Heap.lt_size hTO
      · exact Heap.lt_size e1
      · exact Heap.lt_size e2
      · exact Heap.lt_size e3
    rw [upd_ne (Nat.ne_of_lt (Nat.lt_of_lt_of_le lq newT))]
    exact (hf q hq).1
  done := by
    intro X hP hw hK hc i pins s σ H E I hf st hg
    subst hP hw hK
    obtain ⟨hz, hTI, hTO, t1, t2, t3⟩ := st
    obtain ⟨xs, ys, zs, ⟨qx, qy, qz⟩, lx, ly, lz⟩ := hg
    obtain ⟨us, ru, tu, _⟩ := I.tuple qx
    obtain ⟨vs, rv, tv, _⟩ := I.tuple qy
    obtain ⟨ws, rw', tw, _⟩ := I.tuple qz
    have lu := ru.length
    have lv := rv.length
    have lw := rw'.length
    have W := WalksT.zipD3 (A := X.A) S (Draws.tuple (prog := X.prog) (w := X.w) (A := X.A.in1) (I.ok.hd hc) i1 a n1 us.toArray) (Draws.tuple (prog := X.prog) (w := X.w) (A := X.A.in1) (I.ok.hd hc) i2 b n2 vs.toArray) (Draws.tuple (prog := X.prog) (w := X.w) (A := X.A.in1) (I.ok.hd hc) i3 c n3 ws.toArray)
    have en : min (min us.toArray.size vs.toArray.size) ws.toArray.size = i := by simp only [List.size_toArray]; omega
    refine W.done s _ _ ?_ fun h' tk kp => ⟨rfl, ?_⟩
    · rw [en]
      exact ⟨hz, hTI, hTO, ⟨t1, tu⟩, ⟨t2, tv⟩, ⟨t3, tw⟩⟩
    · refine I.turnedL (ch := [z, TI, TO, i1, i2, i3]) (fun q ob hq e => ?_) hf
      simp only [List.mem_cons, List.not_mem_nil, or_false, not_or] at hq
      exact kp q ob (by simp [hq]) e
  self := by
    rintro A i s Q E ⟨hz, _⟩ h
    exact wpAny_pyIter_zip hz h
def iZip3 (K : PySem.W.Frag) (ta : TA) : TI := fun σ H R => ta σ H fun vs H1 => ∃ a b c xs ys zs, vs = [.ref a, .ref b, .ref c] ∧ SqT K H1 a xs ∧ SqT K H1 b ys ∧ SqT K H1 c zs ∧ R (ItZ K a b c) H1
theorem pi_zip3 {X : Cx} {e e2 e3 : Expr} {ta : TA} {p pos tpos : Pos} {elts : List Expr} {kk : Nat} (hg : Gl X "zip") (hm : X.mg "zip" = none) (ha : PA X [e, e2, e3] ta) (hs : starEach [e, e2, e3] X.env = (false, eval e X.env) :: starEach [e2, e3] X.env := by rfl)
    (hpl : (backTo pos (starEach [e2, e3] X.env)).any (·.1) = false := by rfl) : PI X (.Tuple elts kk tpos) (.Call (.Name "zip" p) [e, e2, e3] [] pos) (iZip3 X.K ta) := by
  refine ⟨fun pins s σ H R I want => Call_ (ld_blt I hg hm PyProof.Rows.boot_zip (PyProof.Rows.callWith_type1 (thn (ha.run pos pins s σ H _ I want) fun us s1 got => ?_) hs hpl))⟩
  obtain ⟨vs, H1, J, rel, a, b, c, xs, ys, zs, ex, qa, qb, qc, q⟩ := got
  subst ex
  cases rel with
  | cons r1 rel =>
    cases rel with
    | cons r2 rel =>
      cases rel with
      | cons r3 rel =>
        cases rel
        cases r1
        cases r2
        cases r3
        obtain ⟨u1, _, t1, _⟩ := J.tuple qa
        obtain ⟨u2, _, t2, _⟩ := J.tuple qb
        obtain ⟨u3, _, t3, _⟩ := J.tuple qc
        have la : a < s1.heap.objs.size := let ⟨_, y, _⟩ := t1; Heap.lt_size y
        have lb : b < s1.heap.objs.size := let ⟨_, y, _⟩ := t2; Heap.lt_size y
        have lc : c < s1.heap.objs.size := let ⟨_, y, _⟩ := t3; Heap.lt_size y
        refine zip_begins3 (begins_tuple a u1.toArray) (begins_tuple b u2.toArray) (begins_tuple c u3.toArray) t1 t2 t3 fun h' hz hTI hTO g1 g2 g3 _ kp => wpAny_pyIter_zip hz ?_
        have J2 : Inv X pins σ H1 { s1 with heap := h' } := J.kept (t' := s1.toks) kp
        have S := zip_sep3 (N := s1.heap.objs.size) (fp1 := [a]) (fp2 := [b]) (fp3 := [c]) (fun y hy => by rw [List.mem_singleton.mp hy]; exact la) (fun y hy => by rw [List.mem_singleton.mp hy]; exact lb) (fun y hy => by rw [List.mem_singleton.mp hy]; exact lc)
        refine ⟨s1.heap.objs.size + 5, [s1.heap.objs.size + 5, s1.heap.objs.size + 3, s1.heap.objs.size + 4, s1.heap.objs.size, s1.heap.objs.size + 1, s1.heap.objs.size + 2], _, _, H1, rfl, J2, turn_zip3 S (Nat.ne_of_lt la) (Nat.ne_of_lt (Nat.lt_succ_of_lt lb)) (Nat.ne_of_lt (Nat.lt_succ_of_lt (Nat.lt_succ_of_lt lc))), ⟨hz, hTI, ⟨_, _, _, hTO⟩, ⟨_, g1, rfl, rfl⟩, ⟨_, g2, rfl, rfl⟩, ⟨_, g3, rfl, rfl⟩⟩, fun y hy => ?_, q⟩
        have ly : s1.heap.objs.size ≤ y := by
          simp only [List.mem_cons, List.not_mem_nil, or_false] at hy
          rcases hy with rfl | rfl | rfl | rfl | rfl | rfl
          · exact Nat.le_add_right _ _
          · exact Nat.le_add_right _ _
          · exact Nat.le_add_right _ _
          · exact Nat.le_refl _
          · exact Nat.le_add_right _ _
          · exact Nat.le_add_right _ _
        exact J.fpOk ly (J.hok.fresh ly)
/-! ### len(set(t)) of a tuple of ints -/
theorem sub_len : ∀ {ks ns : List Int}, ks.Nodup → (∀ x ∈ ks, x ∈ ns) → ks.length ≤ ns.length
  | [], _, _, _ => Nat.zero_le _
  | k :: ks, ns, nd, h => by
    rw [List.nodup_cons] at nd
    have hk := h k (by simp)
    have q := sub_len (ks := ks) (ns := ns.erase k) nd.2 fun x hx => (List.mem_erase_of_ne (fun z => nd.1 (by rw [← z]; exact hx))).mpr (h x (List.mem_cons_of_mem _ hx))
    rw [List.length_erase_of_mem hk] at q
    have : 0 < ns.length := List.length_pos_of_mem hk
    rw [List.length_cons]
    omega
theorem twice : ∀ {ns : List Int}, ¬ ns.Nodup → ∃ x, x ∈ ns ∧ x ∈ ns.erase x
  | [], h => absurd List.nodup_nil h
  | y :: l, h => by
    by_cases hy : y ∈ l
    · exact ⟨y, by simp, by rw [List.erase_cons_head]; exact hy⟩
    · have hl : ¬ l.Nodup := fun z => h (List.nodup_cons.mpr ⟨hy, z⟩)
      obtain ⟨x, h1, h2⟩ := twice hl
      refine ⟨x, List.mem_cons_of_mem _ h1, ?_⟩
      have ne : y ≠ x := fun z => hy (by rw [z]; exact h1)
      rw [List.erase_cons_tail (by simpa using ne)]
      exact List.mem_cons_of_mem _ h2
theorem many_iff {ks ns : List Int} (nd : ks.Nodup) (h : ∀ x, x ∈ ns ↔ x ∈ ks) : ks.length = ns.length ↔ ns.Nodup := by
  constructor
  · intro e
    by_cases hn : ns.Nodup
    · exact hn
    · obtain ⟨x, h1, h2⟩ := twice hn
      have q := sub_len (ns := ns.erase x) nd fun y hy => by
        by_cases e2 : y = x
        · rw [e2]
          exact h2
        · exact (List.mem_erase_of_ne e2).mpr ((h y).mpr hy)
      rw [List.length_erase_of_mem h1] at q
      have : 0 < ns.length := List.length_pos_of_mem h1
      omega
  · intro hn
    have q1 := sub_len nd fun y hy => (h y).mpr hy
    have q2 := sub_len hn fun y hy => (h y).mp hy
    omega
def tLenSet (K : PySem.W.Frag) (ta : TE) : TE := fun σ H Q => ta σ H fun x H1 => ∃ (l : Addr) (ns : List Int), x = .ref l ∧ SqT K H1 l (ns.map V.int) ∧ ns.length ≤ 4000 ∧ ∀ c : Nat, (c = ns.length ↔ ns.Nodup) → Q (.int c) H1
theorem pe_lenSetT {X : Cx} {a : Expr} {ta : TE} {p p2 q pos : Pos} (hg : Gl X "len") (hm : X.mg "len" = none) (hg2 : Gl X "set") (hm2 : X.mg "set" = none) (ha : PE X a ta) (hc : X.calm = true := by rfl)
    (na : starEach [a] X.env = (false, eval a X.env) :: starEach [] X.env := by rfl) : PE X (.Call (.Name "len" p) [.Call (.Name "set" p2) [a] [] q] [] pos) (tLenSet X.K ta) := by
  refine ⟨fun pins s σ H Q I want => Call_ (ld_blt I hg hm PySem.boot_len (PyProof.Rows.callWith_builtin1 (PyProof.Rows.args_cons (Call_ (ld_blt I hg2 hm2 PyProof.Rows.boot_set (PyProof.Rows.callWith_type1 (PyProof.Rows.args_cons (thn (ha.run pins s σ H _ I want) fun v s1 got => PyProof.Rows.args_nil ?_) na) na rfl))) rfl) rfl rfl))⟩
  obtain ⟨x, H1, J, r1, l, ns, ex, hq, hl, q1⟩ := got
  subst ex
  obtain rfl : v = Value.ref l := r1
  obtain ⟨its, rel, tup, _⟩ := J.tuple hq
  refine call_set_tupI ns (J.ok.hd hc) tup (by simpa using rel.ints) (by unfold scanBound; omega) fun h' tk c hS hcl kp => PyProof.Rows.args_nil ?_
  obtain ⟨o, es, ep, t, ho, hex, hd, _, nd, mem, _, hf, hn, _⟩ := hS
  have J2 : Inv X pins σ H1 { s1 with heap := h', toks := tk } := J.kept kp
  have len : (es.toList.map keyOf).length = c := by rw [List.length_map, Array.length_toList, hn]
  have key : c = ns.length ↔ ns.Nodup := by
    rw [← len]
    refine many_iff nd fun y => ?_
    rw [← mem y, decide_eq_true_iff]
  exact call_len_set ho hex hd hf (by omega) ⟨.int c, H1, J2.tok _, ⟨_, by rw [hn]⟩, q1 c key⟩
/-! ### t[::-1] of a tuple -/
theorem fm_congr {α β : Type} {f g : α → Option β} : ∀ {l : List α}, (∀ x ∈ l, f x = g x) → l.filterMap f = l.filterMap g
  | [], _ => rfl
  | x :: l, h => by
    rw [List.filterMap_cons, List.filterMap_cons, h x (by simp), fm_congr (l := l) fun y hy => h y (List.mem_cons_of_mem _ hy)]
theorem back_pick (items : Array Value) : ((List.range items.size).filterMap fun (k : Nat) => items[((items.size : Int) - 1 + (k : Int) * (-1)).toNat]?).toArray = items.toList.reverse.toArray := by
  have e : (List.range items.size).filterMap (fun (k : Nat) => items[((items.size : Int) - 1 + (k : Int) * (-1)).toNat]?) = ((List.range items.size).map fun k => items.size - 1 - k).filterMap (items[·]?) := by
    rw [List.filterMap_map]
    refine fm_congr fun k hk => ?_
    have := List.mem_range.mp hk
    show _ = items[items.size - 1 - k]?
    congr 1
    omega
  rw [e, PySem.W.krv_range, List.filterMap_reverse, PySem.W.krv_all]
section
variable {P : Program} {w : World} {A : PySem.Around} {E : Value → Shared → Prop} {s : Shared}
theorem applied_back {sl : Addr} {vk : Value} {n : Nat} {Q : Int × Int × Nat → Shared → Prop} (hs : s.heap.IsSliceOf sl .none .none vk) (pk : IsPart vk (some (-1))) (h : Q ((n : Int) - 1, -1, n) s) : wpAny (model P w) A (Builtin.Slice.sliceApplied (.ref sl) (pure (n : Int))) Q E s := by
  obtain ⟨os, look, _, flds⟩ := id hs
  unfold Builtin.Slice.sliceApplied Builtin.Slice.sliceFields
  refine wpAny_bind (wpAny_bind (wpAny_field look flds (x := .none) rfl (wpAny_bind (wpAny_field look flds (x := .none) rfl (wpAny_bind (wpAny_field look flds (x := vk) rfl (wpAny_pure ?_)))))))
  refine wpAny_bind (HT.slicePart_ pk ?_)
  show wpAny _ _ (if ((-1 : Int) == 0) = true then _ else _) _ _ s
  rw [if_neg (by decide)]
  refine wpAny_bind (HT.slicePart_ .none (wpAny_bind (HT.slicePart_ .none (wpAny_bind (wpAny_pure ?_)))))
  have pl : Builtin.Slice.slicePlaces ((n : Int) - 1) (-1) (-1) = n := by
    unfold Builtin.Slice.slicePlaces
    rw [if_neg (by decide)]
    by_cases z : (n : Int) - 1 > -1
    · rw [if_pos z, show (-(-1) : Int) = 1 from by decide, Int.ediv_one]
      omega
    · rw [if_neg z]
      omega
  show wpAny _ _ (pure ((n : Int) - 1, (-1 : Int), Builtin.Slice.slicePlaces ((n : Int) - 1) (-1) (-1))) _ _ s
  rw [pl]
  exact wpAny_pure h
theorem getItem_back {t sl : Addr} {items : Array Value} {vk : Value} {Q : Value → Shared → Prop} (ht : IsTup s.heap t items) (hs : s.heap.IsSliceOf sl .none .none vk) (pk : IsPart vk (some (-1))) (hsz : items.size ≤ sizeLine)
    (h : Q (.ref s.heap.objs.size) { s with heap := s.heap.push { cls := .type "tuple", data := .seq items.toList.reverse.toArray } }) : wpAny (model P w) A (getItem (.ref t) (.ref sl)) Q E s := by
  have small : sizeOk (.seq items.toList.reverse.toArray) := by
    show items.toList.reverse.toArray.size ≤ sizeLine
    rw [List.size_toArray, List.length_reverse, Array.length_toList]
    exact hsz
  obtain ⟨os, look, kind, _⟩ := id hs
  have isSl : s.TypeIs (.ref sl) "slice" := ⟨os, look, kind⟩
  unfold getItem
  try with_reducible refine wpAny_holding ?_
  first | refine wpAny_bind (wpAny_pure ?_) | skip
  refine wpAny_bind (wpAny_sequenceKey ht.typeIs (by decide) ?_)
  refine wpAny_bind (wpAny_callSpecial?_slot (name := Str.ofString "__getitem__") ht.typeIs PyProof.Rows.slot_tuple_getitem (wpAny_call_entry PyProof.Rows.slot_tuple_getitem ht.typeIs PySem.F.entry_tuple_getitem ?_ (PySem.F.args_tuple_getitem_2 _ _)))
  show wpAny _ _ (Builtin.Tuple.tupleItemsOf (.ref t) >>= _) _ _ s
  refine wpAny_bind (tupleItemsOf_ ht ?_)
  refine wpAny_bind (wpAny_typeOf isSl ?_)
  rw [if_pos (by decide)]
  refine wpAny_bind (applied_back hs pk ?_)
  have no : ¬ (((items.size : Int) - 1 == 0 && (-1 : Int) == 1 && items.size == items.size) = true) := by
    intro z
    rw [Bool.and_eq_true, Bool.and_eq_true] at z
    exact absurd z.1.2 (by decide)
  show wpAny _ _ (if ((items.size : Int) - 1 == 0 && (-1 : Int) == 1 && items.size == items.size) = true then _ else _) _ _ s
  rw [if_neg no, back_pick]
  first
    | exact wpAny_bind (m := Builtin.Tuple.tupleExact _) (wpAny_newObj_type (wpAny_pure ⟨_, rfl, wpAny_pure h⟩) small)
    | exact wpAny_bind (wpAny_bind (m := Builtin.Tuple.tupleExact _) (wpAny_newObj_type (wpAny_pure (wpAny_pure ⟨_, rfl, wpAny_pure h⟩)) small))
    | exact wpAny_bind (m := Builtin.Tuple.tupleExact _) (wpAny_newObj_type (wpAny_bind (wpAny_pure (wpAny_pure ⟨_, rfl, wpAny_pure h⟩))) small)
end
def tRevT (K : PySem.W.Frag) (te : TE) : TE := fun σ H Q => te σ H fun x H1 => ∃ a xs, x = .ref a ∧ SqT K H1 a xs ∧ ∀ p, H1 p = none → Q (.ref p) (upd H1 p (.tup xs.reverse))
theorem pe_revT {X : Cx} {e : Expr} {te : TE} {k : Nat} {p1 p2 p3 pos : Pos} (he : PE X e te) : PE X (.Subscript e (.Slice none none (some (.UnaryOp .USub (.Constant (.int 1) k p1) p2)) p3) pos) (tRevT X.K te) := by
  refine ⟨fun pins s σ H Q I want => Subscript_ (thn (he.run pins s σ H _ I want) fun v s1 got => ?_)⟩
  obtain ⟨x, H1, I1, r1, a, xs, ex, hx, q⟩ := got
  subst ex
  obtain rfl : v = Value.ref a := r1
  have step : PO X (some (.UnaryOp .USub (.Constant (.int 1) k p1) p2)) (tPart (tUn (rU fun i => .int (-i)) (tC (.int 1)))) := po_some (pe_un un_neg pe_int)
  refine wpAny_Slice (thn (po_none.run pins s1 σ H1 (fun o H2 => o = none ∧ H2 = H1) I1 ⟨rfl, rfl⟩) fun vl s2 got2 => ?_)
  obtain ⟨_, _, I2, pl, rfl, rfl⟩ := got2
  refine thn (po_none.run pins s2 σ _ (fun o H3 => o = none ∧ H3 = _) I2 ⟨rfl, rfl⟩) fun vu s3 got3 => ?_
  obtain ⟨_, _, I3, pu, rfl, rfl⟩ := got3
  refine thn (step.run pins s3 σ _ (fun o H4 => o = some (-1) ∧ H4 = _) I3 ⟨1, rfl, -1, rfl, rfl, rfl⟩) fun vk s4 got4 => ?_
  obtain ⟨_, H4, I4, pk, rfl, rfl⟩ := got4
  cases pl
  cases pu
  have I5 : Inv X pins σ H4 { s4 with heap := s4.heap.push { cls := .type "slice", data := .fields #[.none, .none, vk] } } := I4.kept (t' := s4.toks) fun b ob z => Heap.get?_push_of_some _ z
  obtain ⟨its, rel, tup, small⟩ := I5.tuple hx
  have hlen := rel.length
  show wpAny (model X.prog X.w) X.A (subscriptTail e (.Slice none none (some (.UnaryOp .USub (.Constant (.int 1) k p1) p2)) p3) (.ref a) (.ref s4.heap.objs.size)) (EP X pins σ Q) X.xe _
  refine tail_any (ops := [.ref a, .ref s4.heap.objs.size]) tup.typeIs PyProof.Rows.slot_tuple_getitem.lookup ?_ (by with_unfolding_all rfl)
  refine getItem_back tup (Heap.IsSliceOf.new _ .none .none vk) pk (by rw [List.size_toArray]; omega) ?_
  refine ⟨.ref _, _, I5.laid (t' := s4.toks) (o := .tup xs.reverse) (fun b ob z => Heap.get?_push_of_some _ z) (Nat.le_refl _) ?_, rfl, q _ (I5.hok.fresh (Nat.le_refl _))⟩
  exact ⟨by rw [List.length_reverse]; exact small, _, rel.reverse, IsTup.new _ _⟩
/-! ### ties, walks, parts: the mathematics -/
def Adj (ts : List Tie) (a b : Int) (foe : Bool) : Prop := ∃ t ∈ ts, t.foe = foe ∧ ((t.one = a ∧ t.other = b) ∨ (t.one = b ∧ t.other = a))
theorem Adj.symm {ts : List Tie} {a b : Int} {k : Bool} (h : Adj ts a b k) : Adj ts b a k := by
  obtain ⟨t, ht, e, h⟩ := h
  exact ⟨t, ht, e, h.symm⟩
/-- a walk with so many foes, even or odd -/
inductive RP (ts : List Tie) (a : Int) : Int → Bool → Prop
  | nil : RP ts a a false
  | step {b c : Int} {p k : Bool} : RP ts a b p → Adj ts b c k → RP ts a c (p ^^ k)
def Rch (ts : List Tie) (a b : Int) : Prop := ∃ p, RP ts a b p
theorem RP.trans {ts : List Tie} {a b c : Int} {p q : Bool} (h : RP ts a b p) (g : RP ts b c q) : RP ts a c (p ^^ q) := by
  induction g with
  | nil =>
    rw [Bool.xor_false]
    exact h
  | step _ k ih =>
    rw [← Bool.xor_assoc]
    exact ih.step k
theorem RP.one {ts : List Tie} {a b : Int} {k : Bool} (h : Adj ts a b k) : RP ts a b k := by
  have q := RP.nil.step h
  rw [Bool.false_xor] at q
  exact q
theorem RP.symm {ts : List Tie} {a b : Int} {p : Bool} (h : RP ts a b p) : RP ts b a p := by
  induction h with
  | nil => exact .nil
  | step _ k ih =>
    have q := (RP.one k.symm).trans ih
    rw [Bool.xor_comm] at q
    exact q
theorem Rch.refl {ts : List Tie} {a : Int} : Rch ts a a := ⟨_, .nil⟩
theorem Rch.symm {ts : List Tie} {a b : Int} (h : Rch ts a b) : Rch ts b a := by
  obtain ⟨p, h⟩ := h
  exact ⟨p, h.symm⟩
theorem Rch.trans {ts : List Tie} {a b c : Int} (h : Rch ts a b) (g : Rch ts b c) : Rch ts a c := by
  obtain ⟨p, h⟩ := h
  obtain ⟨q, g⟩ := g
  exact ⟨_, h.trans g⟩
theorem Rch.adj {ts : List Tie} {a b : Int} {k : Bool} (h : Adj ts a b k) : Rch ts a b := ⟨_, RP.one h⟩
theorem Rch.ind {ts : List Tie} {a b : Int} (C : Int → Prop) (h : Rch ts a b) (h0 : C a) (hs : ∀ x y k, C x → Adj ts x y k → C y) : C b := by
  obtain ⟨p, h⟩ := h
  induction h with
  | nil => exact h0
  | step _ k ih => exact hs _ _ _ ih k
theorem Adj.rng {ts : List Tie} {n a b : Int} {k : Bool} (ok : ∀ t ∈ ts, TieOk n t) (h : Adj ts a b k) : 0 ≤ b ∧ b < n := by
  obtain ⟨t, ht, _, h⟩ := h
  obtain ⟨h1, h2, h3, h4, _⟩ := ok t ht
  rcases h with ⟨e1, e2⟩ | ⟨e1, e2⟩
  · omega
  · omega
theorem Rch.rng {ts : List Tie} {n a b : Int} (ok : ∀ t ∈ ts, TieOk n t) (ha : 0 ≤ a ∧ a < n) (h : Rch ts a b) : 0 ≤ b ∧ b < n := h.ind (fun x => 0 ≤ x ∧ x < n) ha fun _ _ _ _ k => k.rng ok
def leader (ts : List Tie) (s : Int) : Prop := ∀ q, Rch ts s q → s ≤ q
/-- rising lists of the same numbers are one -/
theorem rising_ext : ∀ {xs ys : List Int}, xs.Pairwise (· < ·) → ys.Pairwise (· < ·) → (∀ z, z ∈ xs ↔ z ∈ ys) → xs = ys
  | [], [], _, _, _ => rfl
  | [], y :: ys, _, _, h => by have := (h y).mpr (by simp); simp at this
  | x :: xs, [], _, _, h => by have := (h x).mp (by simp); simp at this
  | x :: xs, y :: ys, hx, hy, h => by
    rw [List.pairwise_cons] at hx hy
    have e : x = y := by
      have h1 := (h x).mp (by simp)
      have h2 := (h y).mpr (by simp)
      rcases List.mem_cons.mp h1 with e | e
      · exact e
      · rcases List.mem_cons.mp h2 with e' | e'
        · exact e'.symm
        · have := hx.1 y e'
          have := hy.1 x e
          omega
    subst e
    rw [rising_ext hx.2 hy.2 fun z => ?_]
    constructor
    · intro hz
      rcases List.mem_cons.mp ((h z).mp (List.mem_cons_of_mem _ hz)) with e | e
      · have := hx.1 z hz
        omega
      · exact e
    · intro hz
      rcases List.mem_cons.mp ((h z).mpr (List.mem_cons_of_mem _ hz)) with e | e
      · have := hy.1 z hz
        omega
      · exact e
/-- 0, 1, .., n - 1 -/
def rng (n : Nat) : List Int := (List.range n).map fun (i : Nat) => (i : Int)
theorem mem_rng {n : Nat} {z : Int} : z ∈ rng n ↔ 0 ≤ z ∧ z < n := by
  unfold rng
  rw [List.mem_map]
  constructor
  · rintro ⟨i, hi, rfl⟩
    have := List.mem_range.mp hi
    omega
  · rintro ⟨h1, h2⟩
    exact ⟨z.toNat, List.mem_range.mpr (by omega), by omega⟩
theorem rng_rising (n : Nat) : (rng n).Pairwise (· < ·) := by
  unfold rng
  rw [List.pairwise_map]
  exact List.pairwise_lt_range.imp (by intro a b h; omega)
theorem rng_succ (n : Nat) : rng (n + 1) = rng n ++ [(n : Int)] := by
  unfold rng
  rw [List.range_succ, List.map_append]
  rfl
theorem rng_length (n : Nat) : (rng n).length = n := by
  unfold rng
  rw [List.length_map, List.length_range]
open Classical in
/-- the part of s -/
noncomputable def partOf (ts : List Tie) (n : Nat) (s : Int) : List Int := (rng n).filter fun p => decide (Rch ts s p)
open Classical in
/-- the parts by their first places, below i -/
noncomputable def partsTo (ts : List Tie) (n i : Nat) : List (List Int) := ((rng i).filter fun s => decide (leader ts s)).map (partOf ts n)
open Classical in
theorem partsTo_succ (ts : List Tie) (n i : Nat) : partsTo ts n (i + 1) = partsTo ts n i ++ (if leader ts i then [partOf ts n i] else []) := by
  unfold partsTo
  rw [rng_succ, List.filter_append, List.map_append]
  congr 1
  by_cases h : leader ts (i : Int)
  · rw [if_pos h, List.filter_cons, if_pos (decide_eq_true h)]
    rfl
  · rw [if_neg h, List.filter_cons, if_neg (by simpa using h)]
    rfl
theorem part_rising (ts : List Tie) (n : Nat) (s : Int) : (partOf ts n s).Pairwise (· < ·) := (rng_rising n).filter _
theorem mem_part {ts : List Tie} {n : Nat} {s z : Int} : z ∈ partOf ts n s ↔ (0 ≤ z ∧ z < n) ∧ Rch ts s z := by
  unfold partOf
  rw [List.mem_filter, mem_rng]
  simp
/-! ### the least place that each comes to, gone over again and again -/
def relax (f : Int → Int) (t : Tie) : Int → Int := fun x => if x = t.one ∨ x = t.other then min (f t.one) (f t.other) else f x
def rounds (ts : List Tie) : Nat → Int → Int
  | 0 => fun x => x
  | r + 1 => ts.foldl relax (rounds ts r)
theorem relax_le (f : Int → Int) (t : Tie) (x : Int) : relax f t x ≤ f x := by
  unfold relax
  split
  · rename_i h
    rcases h with rfl | rfl <;> omega
  · exact Int.le_refl _
theorem fold_le : ∀ (l : List Tie) (f : Int → Int) (x : Int), l.foldl relax f x ≤ f x
  | [], _, _ => Int.le_refl _
  | t :: l, f, x => Int.le_trans (fold_le l (relax f t) x) (relax_le f t x)
theorem fold_tie : ∀ (l : List Tie) (f : Int → Int) (t : Tie), t ∈ l → l.foldl relax f t.one ≤ min (f t.one) (f t.other) ∧ l.foldl relax f t.other ≤ min (f t.one) (f t.other)
  | t' :: l, f, t, h => by
    rcases List.mem_cons.mp h with e | e
    · subst e
      have h1 := fold_le l (relax f t) t.one
      have h2 := fold_le l (relax f t) t.other
      have e1 : relax f t t.one = min (f t.one) (f t.other) := by unfold relax; rw [if_pos (.inl rfl)]
      have e2 : relax f t t.other = min (f t.one) (f t.other) := by unfold relax; rw [if_pos (.inr rfl)]
      rw [e1] at h1
      rw [e2] at h2
      exact ⟨h1, h2⟩
    · have ih := fold_tie l (relax f t') t e
      have h1 := relax_le f t' t.one
      have h2 := relax_le f t' t.other
      exact ⟨Int.le_trans ih.1 (by omega), Int.le_trans ih.2 (by omega)⟩
theorem fold_rch {ts : List Tie} : ∀ (l : List Tie) (f : Int → Int), (∀ t ∈ l, t ∈ ts) → (∀ x, Rch ts x (f x)) → ∀ x, Rch ts x (l.foldl relax f x)
  | [], _, _, h => h
  | t :: l, f, hl, h => fold_rch l (relax f t) (fun t' ht => hl t' (List.mem_cons_of_mem _ ht)) fun x => by
    have ad : Rch ts t.one t.other := Rch.adj (k := t.foe) ⟨t, hl t (by simp), rfl, .inl ⟨rfl, rfl⟩⟩
    unfold relax
    split
    · rename_i hx
      have key : Rch ts x t.one ∧ Rch ts x t.other := by
        rcases hx with e | e <;> subst e
        · exact ⟨Rch.refl, ad⟩
        · exact ⟨ad.symm, Rch.refl⟩
      rcases Int.le_total (f t.one) (f t.other) with q | q
      · rw [Int.min_eq_left q]
        exact key.1.trans (h _)
      · rw [Int.min_eq_right q]
        exact key.2.trans (h _)
    · exact h x
theorem rounds_rch (ts : List Tie) : ∀ (r : Nat) (x : Int), Rch ts x (rounds ts r x)
  | 0, _ => Rch.refl
  | r + 1, x => fold_rch ts _ (fun _ h => h) (rounds_rch ts r) x
theorem filter_lt {p q : Int → Bool} : ∀ {l : List Int}, (∀ x ∈ l, q x = true → p x = true) → (∃ x ∈ l, p x = true ∧ q x = false) → (l.filter q).length < (l.filter p).length
  | [], _, ⟨x, hx, _⟩ => by simp at hx
  | y :: l, hi, ⟨x, hx, hp, hq⟩ => by
    have mono : (l.filter q).length ≤ (l.filter p).length := by
      have hi' : ∀ x ∈ l, q x = true → p x = true := fun x h => hi x (List.mem_cons_of_mem _ h)
      clear hi hx hp hq
      induction l with
      | nil => exact Nat.le_refl _
      | cons z l ih =>
        have ih := ih fun x h => hi' x (List.mem_cons_of_mem _ h)
        rw [List.filter_cons, List.filter_cons]
        have hz := hi' z (by simp)
        cases h1 : q z <;> cases h2 : p z <;> simp_all <;> omega
    rw [List.filter_cons, List.filter_cons]
    rcases List.mem_cons.mp hx with e | e
    · subst e
      rw [hq, hp]
      simp
      omega
    · have ih := filter_lt (l := l) (fun x h => hi x (List.mem_cons_of_mem _ h)) ⟨x, e, hp, hq⟩
      have hy := hi y (by simp)
      cases h1 : q y <;> cases h2 : p y <;> simp_all <;> omega
open Classical in
/-- behind as many rounds as there are places each has its part's least place -/
theorem rounds_least {ts : List Tie} {n : Nat} (ok : ∀ t ∈ ts, TieOk n t) {m p : Int} (hm : leader ts m) (h0 : 0 ≤ m ∧ m < n) (hp : Rch ts m p) : rounds ts n p = m := by
  have ge : ∀ r x, Rch ts m x → m ≤ rounds ts r x := fun r x hx => hm _ (hx.trans (rounds_rch ts r x))
  have mono : ∀ r x, rounds ts (r + 1) x ≤ rounds ts r x := fun r x => fold_le ts _ x
  have atm : ∀ r, rounds ts r m = m := fun r => by
    have h1 := ge r m Rch.refl
    have h2 : rounds ts r m ≤ m := by
      induction r with
      | zero => exact Int.le_refl _
      | succ r ih => exact Int.le_trans (mono r m) (ih (ge r m Rch.refl))
    omega
  have cnt : ∀ r, ((rng n).filter fun x => decide (Rch ts m x ∧ rounds ts r x ≠ m)).length ≤ n - r := fun r => by
    induction r with
    | zero =>
      refine Nat.le_trans (List.length_filter_le _ _) ?_
      rw [rng_length]
      omega
    | succ r ih =>
      by_cases hex : ∃ x, Rch ts m x ∧ rounds ts r x ≠ m
      · obtain ⟨x, hx, hne⟩ := hex
        -- an edge over which it comes
        have edge : ∃ a b k, Rch ts m a ∧ rounds ts r a = m ∧ Adj ts a b k ∧ rounds ts r b ≠ m := by
          by_cases hn : ∃ a b k, Rch ts m a ∧ rounds ts r a = m ∧ Adj ts a b k ∧ rounds ts r b ≠ m
          · exact hn
          · exfalso
            refine hne (hx.ind (fun y => Rch ts m y ∧ rounds ts r y = m) ⟨Rch.refl, atm r⟩ fun a b k ha k' => ⟨ha.1.trans (Rch.adj k'), ?_⟩).2
            by_cases hb : rounds ts r b = m
            · exact hb
            · exact absurd ⟨a, b, k, ha.1, ha.2, k', hb⟩ hn
        obtain ⟨a, b, k, ha, ha2, hab, hb⟩ := edge
        have hmb : Rch ts m b := ha.trans (Rch.adj hab)
        have hb' : rounds ts (r + 1) b = m := by
          have h1 := ge (r + 1) b hmb
          obtain ⟨t, ht, _, h⟩ := hab
          have ft := fold_tie ts (rounds ts r) t ht
          have h2 : rounds ts (r + 1) b ≤ m := by
            rcases h with ⟨e1, e2⟩ | ⟨e1, e2⟩
            · have q := ft.2
              rw [e1, e2, ha2] at q
              exact Int.le_trans q (by omega)
            · have q := ft.1
              rw [e1, e2, ha2] at q
              exact Int.le_trans q (by omega)
          omega
        have lt := filter_lt (p := fun x => decide (Rch ts m x ∧ rounds ts r x ≠ m)) (q := fun x => decide (Rch ts m x ∧ rounds ts (r + 1) x ≠ m)) (l := rng n) (fun x _ hq => by
          have hq := of_decide_eq_true hq
          refine decide_eq_true ⟨hq.1, fun z => hq.2 ?_⟩
          have h1 := ge (r + 1) x hq.1
          have h2 := mono r x
          omega) ⟨b, mem_rng.mpr (hmb.rng ok h0), decide_eq_true ⟨hmb, hb⟩, decide_eq_false fun z => z.2 hb'⟩
        omega
      · have e : (rng n).filter (fun x => decide (Rch ts m x ∧ rounds ts (r + 1) x ≠ m)) = [] := by
          rw [List.filter_eq_nil_iff]
          intro x _ hq
          have hq := of_decide_eq_true hq
          refine hex ⟨x, hq.1, fun z => hq.2 ?_⟩
          have h1 := ge (r + 1) x hq.1
          have h2 := mono r x
          omega
        rw [e]
        exact Nat.zero_le _
  have c := cnt n
  rw [Nat.sub_self] at c
  have e := List.eq_nil_of_length_eq_zero (Nat.le_zero.mp c)
  by_cases hne : rounds ts n p = m
  · exact hne
  · rw [List.filter_eq_nil_iff] at e
    exact absurd (decide_eq_true ⟨hp, hne⟩) (e p (mem_rng.mpr (hp.rng ok h0)))
open Classical in
/-- each has a least place -/
theorem has_leader {ts : List Tie} {n : Nat} (ok : ∀ t ∈ ts, TieOk n t) {p : Int} (h0 : 0 ≤ p ∧ p < n) : ∃ m, leader ts m ∧ (0 ≤ m ∧ m < n) ∧ Rch ts m p := by
  have key : ∀ (k : Nat) (x : Int), x = k → Rch ts p x → ∃ m, leader ts m ∧ (0 ≤ m ∧ m < n) ∧ Rch ts m p := by
    intro k
    induction k using Nat.strongRecOn with
    | ind k ih =>
      intro x hx hr
      have hxr := hr.rng ok h0
      by_cases hl : leader ts x
      · exact ⟨x, hl, hxr, hr.symm⟩
      · have hl' : ∃ q, Rch ts x q ∧ q < x := by
          by_cases h : ∃ q, Rch ts x q ∧ q < x
          · exact h
          · exfalso
            refine hl fun q hq => ?_
            by_cases h' : q < x
            · exact absurd ⟨q, hq, h'⟩ h
            · omega
        obtain ⟨q, hq, hlt⟩ := hl'
        have hqr := hq.rng ok hxr
        exact ih q.toNat (by omega) q (by omega) (hr.trans hq)
  exact key p.toNat p (by omega) Rch.refl
/-! ### rows of numbers as data -/
def IntsV (H : Hp) (v : V) (xs : List Int) : Prop := ∃ b, v = .ref b ∧ H b = some (.tup (xs.map V.int))
theorem IntsV.tk {H H' : Hp} (k : Tk H H') {v : V} {xs : List Int} (h : IntsV H v xs) : IntsV H' v xs := by
  obtain ⟨a, rfl, e⟩ := h
  exact ⟨a, rfl, k _ _ e⟩
def intsD (xs : List Int) : PyData := .tuple (xs.map PyData.int)
section
variable {K : PySem.W.Frag} {H : Hp}
theorem dp_ints : ∀ (xs : List Int), DpAll K H (xs.map V.int) (xs.map PyData.int)
  | [] => .nil
  | x :: xs => .cons (.int x) (dp_ints xs)
theorem IntsV.dp {v : V} {xs : List Int} (h : IntsV H v xs) : Dp K H v (intsD xs) := by
  obtain ⟨b, rfl, e⟩ := h
  exact .tup (SqT.of e) (dp_ints xs)
end
theorem lay_ints : ∀ xs : List Int, PyData.canLayAll0 (xs.map PyData.int) = true
  | [] => by simp [PyData.canLayAll0]
  | x :: xs => by simp [PyData.canLayAll0, PyData.canLay0, lay_ints xs]
theorem deep_ints : ∀ xs : List Int, PyData.depthAll (xs.map PyData.int) = 0
  | [] => by simp [PyData.depthAll]
  | x :: xs => by simp [PyData.depthAll, PyData.depth, deep_ints xs]
theorem lay_intsD (xs : List Int) : (intsD xs).canLay0 = true := by
  unfold intsD
  rw [PyData.canLay0]
  exact lay_ints xs
theorem deep_intsD (xs : List Int) : (intsD xs).depth = 1 := by
  unfold intsD
  rw [PyData.depth, deep_ints]
theorem shaped_intsD (xs : List Int) : SeqAt.shaped (intsD xs) = true := by
  unfold SeqAt.shaped
  rw [lay_intsD, deep_intsD]
  rfl
theorem eqv_nil (xs : List Int) : PyData.eqv (intsD xs) (intsD []) = xs.isEmpty := by
  unfold intsD
  rw [PyData.eqv]
  cases xs <;> rfl

section
variable {P : Program} {w : World} {K : PySem.W.Frag} {mg : Str → Option Value} {base : Heap}
theorem Kp.free {d c l : Addr} {H H' : Hp} (k : Kp d c H H') (h : H' l = none) (h1 : l ≠ d) (h2 : l ≠ c) : H l = none := by
  cases e : H l with
  | none => rfl
  | some o =>
    rw [k l o h1 h2 e] at h
    cases h
theorem atI_of {xs : List V} {i : Int} {v : V} (h0 : 0 ≤ i) (e : xs[i.toNat]? = some v) : atI xs i = some v := by
  obtain ⟨j, rfl⟩ : ∃ j : Nat, i = (j : Int) := ⟨i.toNat, by omega⟩
  exact atI_nat (by rw [Int.toNat_natCast] at e; exact e)
theorem atI_ints {xs : List Int} {i : Int} (h0 : 0 ≤ i) (h1 : i < xs.length) : ∃ x ∈ xs, xs[i.toNat]? = some x ∧ atI (xs.map V.int) i = some (.int x) := by
  have h : i.toNat < xs.length := by omega
  exact ⟨xs[i.toNat], List.getElem_mem h, List.getElem?_eq_getElem h, atI_of h0 (by rw [List.getElem?_map, List.getElem?_eq_getElem h]; rfl)⟩
end
theorem Same.mut {H H' : Hp} {a : Addr} {o : HO} (s : Same H H') (h : H a = none) : Same H (upd H' a o) := fun b x e => by
  rw [upd_ne (ne_of_none e h)]
  exact s b x e
/-! ### what is asked of rings -/
def wbelow (lim : Int) : V → Bool
  | .int i => decide (0 ≤ i) && decide (i < lim)
  | _ => false
def unl (lim : Int) : Option (List V) → Bool
  | some xs => xs.all (wbelow lim) && decide xs.Nodup
  | none => false
theorem ints_of {lim : Int} : ∀ {xs : List V}, xs.all (wbelow lim) = true → ∃ ns : List Int, xs = ns.map V.int ∧ ∀ n ∈ ns, 0 ≤ n ∧ n < lim
  | [], _ => ⟨[], rfl, fun n hn => by simp at hn⟩
  | x :: xs, h => by
    rw [List.all_cons, Bool.and_eq_true] at h
    obtain ⟨ns, e, h2⟩ := ints_of h.2
    cases x with
    | int i =>
      have h1 : (decide (0 ≤ i) && decide (i < lim)) = true := h.1
      rw [Bool.and_eq_true, decide_eq_true_iff, decide_eq_true_iff] at h1
      refine ⟨i :: ns, by rw [e]; rfl, fun n hn => ?_⟩
      rcases List.mem_cons.mp hn with z | z
      · rw [z]
        exact h1
      · exact h2 n z
    | _ => exact absurd (show false = true from h.1) Bool.false_ne_true
theorem nodup_ints {ns : List Int} : (ns.map V.int).Nodup ↔ ns.Nodup := by
  unfold List.Nodup
  rw [List.pairwise_map]
  exact ⟨fun h => h.imp fun {a b} g z => g (by rw [z]), fun h => h.imp fun {a b} g z => g (V.int.inj z)⟩
theorem room65 {k : Nat} {A : PySem.Around} (r : Room k A) : A.units + 65 < cLine := by have := r.un; omega
theorem eqv_two (x y u v : Int) : PyData.eqv (intsD [x, y]) (intsD [u, v]) = (decide (u = x) && decide (v = y)) := by
  show PyData.eqv (.tuple [.int x, .int y]) (.tuple [.int u, .int v]) = _
  rw [PyData.eqv, PyData.eqvAll, PyData.eqv, PyData.eqvAll, PyData.eqv, PyData.eqvAll, Bool.and_true]
  rw [Bool.eq_iff_iff, Bool.and_eq_true, Bool.and_eq_true, beq_iff_eq, beq_iff_eq, decide_eq_true_iff, decide_eq_true_iff]
  exact ⟨fun h => ⟨h.1.symm, h.2.symm⟩, fun h => ⟨h.1.symm, h.2.symm⟩⟩
def spBelow : Sp := fun vs H Q _ => ∃ lim v, vs = [.int lim, v] ∧ Kn H v ∧ Q (.bl (wbelow lim v)) H
def spUnlike (Ps : List Addr) : Sp := fun vs H Q _ => ∃ lim v, vs = [.int lim, v] ∧ Kn H v ∧ (∀ xs, parts H v = some xs → (∀ x ∈ xs, Kn H x) ∧ xs.length ≤ 1000) ∧ Tabs Ps H ∧ ∀ H', Kt Ps H H' → Q (.bl (unl lim (parts H v))) H'
def joinB (t : Tie) (a b : Int) : Bool := (decide (t.one = a) && decide (t.other = b)) || (decide (t.one = b) && decide (t.other = a))
def spJoins : Sp := fun vs H Q _ => ∃ (c : Addr) (a b : Int) (t : Tie), vs = [.ref c, .int a, .int b] ∧ H c = some (.tup [.int t.one, .int t.other, .str (kindS t.foe)]) ∧ ∀ H', Same H H' → Q (.bl (joinB t a b)) H'
section
variable {P : Program} {w : World} {K : PySem.W.Frag} {mg : Str → Option Value} {base : Heap}
theorem ok_is_whole_below {f : Addr} {fd : FuncData} (F : Fun K "is_whole_below" "is_whole_below" s_is_whole_below f fd) (D1 : Df P w K mg base 1 "is_whole" ["thing"] spWhole) : FnOk P w K mg base CX0 2 f fd ["limit", "thing"] spBelow := by
  obtain ⟨f1, fd1, G1, g1, k1, b1⟩ := D1
  refine F.ok sc_is_whole_below (fun vs H Q E h => ?_) (fun cdv A outer s H vs Q E hr h => ?_)
  · obtain ⟨lim, v, rfl, _⟩ := h
    rfl
  · obtain ⟨lim, v, rfl, hk, q⟩ := h
    refine ⟨_, (pss_one (ps_ret (pe_and (pe_call G1 hr (by rfl) g1 k1 b1 .nil pass0 (pa_cons (pv 1) pa_nil)) (pe_one (pe_chain op_le op_lt pe_int (pv 1) (pv 0)))))), ?_⟩
    refine ⟨v, rfl, v, rfl, hk, _, rfl, ?_⟩
    cases v with
    | int i =>
      refine ⟨.int i, rfl, 0, i, rfl, rfl, _, rfl, ?_⟩
      have e : wbelow lim (.int i) = (decide (0 ≤ i) && decide (i < lim)) := rfl
      rw [e] at q
      by_cases h0 : (0 : Int) ≤ i
      · rw [decide_eq_true h0] at q ⊢
        rw [Bool.true_and] at q
        exact ⟨.int lim, rfl, i, lim, rfl, rfl, q⟩
      · rw [decide_eq_false h0] at q ⊢
        exact q
    | _ => exact q
theorem ok_are_unlike {f c Pt : Addr} {fd : FuncData} {Ps : List Addr} (F : FunC K "are_unlike_below" "are_unlike_below" s_are_unlike_below f fd c) (TB : GxR.TabB base mg c Pt) (hPt : Pt ∈ Ps) (M : Free mg) (hall : mg "all" = none) (hset : mg "set" = none) (D1 : Df P w K mg base 2 "is_whole_below" ["limit", "thing"] spBelow) : FnOk P w K mg base CX0 4 f fd ["limit", "thing"] (spUnlike Ps) := by
  obtain ⟨f1, fd1, G1, g1, k1, b1⟩ := D1
  refine F.ok sc_are_unlike_below (fun vs H Q E h => ?_) (fun A outer s H vs Q E hr h => ?_)
  · obtain ⟨lim, v, rfl, _⟩ := h
    rfl
  · obtain ⟨lim, v, rfl, hk, hsub, hT, q⟩ := h
    refine ⟨_, (pss_cons (ps_if (pt_not (pt_val (pe_callB call_isi (by rfl) M.isinstance (by decide +kernel) (pa_cons (pv 1) (pa_cons (pe_bltn (v := .ty "tuple") (by rfl) M.tuple (by decide +kernel) rfl) pa_nil)))))
        (pss_one (ps_ret pe_bl))
        pss_nil)
      (pss_one (ps_ret (pe_and (pe_all (k := 2) (own := [("number", 2)]) (g := gName 2) hr TB rfl rfl sc_are_unlike_below.nd (by rfl) hall (pi_tup (pv 1)) (blkOk_by (N := N_are_unlike_below) (sc := defScope s_are_unlike_below) (own := [("number", 2)]) (by decide +kernel)) ⟨rfl, by decide +kernel, by decide +kernel⟩ (show (".0" : Str) ∉ N_are_unlike_below by decide +kernel)
        (fun _ _ _ _ _ _ _ => pg_name (i := 2) sc_are_unlike_below.nd rfl (.inl rfl)) (fun _ _ _ _ _ _ _ hr' => pe_call G1 hr' (by rfl) g1 k1 b1 .nil pass0 (pa_cons (pv 0) (pa_cons (pv 2) pa_nil)))) (pe_one (pe_cmpR op_eq (pe_lenSetT (by rfl) M.len (by rfl) hset (pv 1)) (pe_callB call_len_seq (by rfl) M.len PySem.boot_len (pa_cons (pv 1) pa_nil)) (nomark _))))))), ?_⟩
    obtain ⟨t1, h1, e1⟩ := kn_tup (K := K) hk
    refine ⟨v, rfl, v, _, t1, _, _, rfl, .ty "tuple", h1, e1, _, rfl, ?_⟩
    cases hi : isT H v with
    | false =>
      rw [parts_none hi] at q
      exact q _ (Kt.refl hT)
    | true =>
      obtain ⟨a, xs, rfl, ea⟩ := isT_at hi
      rw [parts_of' ea] at q
      obtain ⟨kn, few⟩ := hsub xs (parts_of' ea)
      refine ⟨.ref a, rfl, a, rfl, ⟨_, SqT.of ea⟩, hT Pt hPt, fun i m H' => i + m = xs.length ∧ Kt Ps H H' ∧ (xs.take i).all (wbelow lim) = true, fun H2 hH2 => ⟨xs.length, by omega, Kt.tabbed hT hPt hH2, rfl⟩, fun i m H' hw => ?_⟩
      obtain ⟨em, kt, hal⟩ := hw
      have ea' := kt.tup hT ea
      by_cases hi : i < xs.length
      · refine .inr ⟨⟨_, _, SqT.of ea', List.getElem?_eq_getElem hi⟩, fun H3 => Kt Ps H H3 ∧ (xs.take (i + 1)).all (wbelow lim) = true, fun H3 n3 => ⟨m - 1, by omega, by omega, n3.1, n3.2⟩, fun x H3 hy => ?_⟩
        obtain ⟨rfl, fy⟩ := hy
        have ex : xs[i]? = some x := fy _ (SqT.of ea')
        refine ⟨rfl, .int lim, rfl, x, rfl, lim, x, rfl, kt.kn hT (kn x (List.mem_of_getElem? ex)), _, rfl, ?_⟩
        have step : (xs.take (i + 1)).all (wbelow lim) = wbelow lim x := by
          rw [List.take_add_one, ex, List.all_append, hal]
          simp
        cases hb : wbelow lim x with
        | true => exact ⟨kt, step.trans hb⟩
        | false =>
          have no : xs.all (wbelow lim) = false := by
            rw [Bool.eq_false_iff]
            intro z
            rw [List.all_eq_true] at z
            rw [z x (List.mem_of_getElem? ex)] at hb
            cases hb
          refine ⟨_, rfl, ?_⟩
          have e : unl lim (some xs) = false := by
            show (xs.all (wbelow lim) && decide xs.Nodup) = false
            rw [no, Bool.false_and]
          rw [e] at q
          exact q _ kt
      · refine .inl ⟨⟨_, SqT.of ea', by omega⟩, _, rfl, ?_⟩
        rw [List.take_of_length_le (by omega)] at hal
        obtain ⟨ns, rfl, _⟩ := ints_of hal
        refine ⟨.ref a, rfl, a, ns, rfl, SqT.of ea', by rw [List.length_map] at few; omega, fun cnt hc => ⟨.ref a, rfl, a, _, rfl, .inr (SqT.of ea'), rfl, ?_⟩⟩
        have e : unl lim (some (ns.map V.int)) = decide (V.int (cnt : Int) = V.int ((ns.map V.int).length : Int)) := by
          show ((ns.map V.int).all (wbelow lim) && decide (ns.map V.int).Nodup) = _
          rw [hal, Bool.true_and, decide_eq_decide, nodup_ints, ← hc, List.length_map]
          constructor
          · intro z
            rw [z]
          · intro z
            have := V.int.inj z
            omega
        rw [← e]
        exact q _ kt
theorem ok_joins {f : Addr} {fd : FuncData} (F : Fun K "joins" "joins" s_joins f fd) : FnOk P w K mg base CX0 1 f fd ["tie", "one", "other"] spJoins := by
  refine F.ok sc_joins (fun vs H Q E h => ?_) (fun cdv A outer s H vs Q E hr h => ?_)
  · obtain ⟨c, a, b, t, rfl, _⟩ := h
    rfl
  · obtain ⟨c, a, b, t, rfl, hc, q⟩ := h
    have hu := room65 hr
    refine ⟨_, (pss_one (ps_ret (pe_cmpR (op_inTup hu) (pe_tup (pa_cons (pe_ix ix_tup (pv 0) pe_int (fun _ _ => rfl)) (pa_cons (pe_ix ix_tup (pv 0) pe_int (fun _ _ => rfl)) pa_nil))) (pe_tup (pa_cons (pe_tup (pa_cons (pv 1) (pa_cons (pv 2) pa_nil))) (pa_cons (pe_tup (pa_cons (pv 2) (pa_cons (pv 1) pa_nil))) pa_nil))) rfl))), ?_⟩
    refine ⟨.ref c, rfl, c, _, 0, _, rfl, rfl, SqT.of hc, rfl, .ref c, rfl, c, _, 1, _, rfl, rfl, SqT.of hc, rfl, by show 2 ≤ sizeLine; decide, fun p1 n1 => ?_⟩
    refine ⟨.int a, rfl, .int b, rfl, by show 2 ≤ sizeLine; decide, fun p2 n2 => ⟨.int b, rfl, .int a, rfl, by show 2 ≤ sizeLine; decide, fun p3 n3 => ⟨by show 2 ≤ sizeLine; decide, fun p4 n4 => ?_⟩⟩⟩
    have s4 := same_new (o := .tup [.ref p2, .ref p3]) n4
    have s3 := (same_new (o := .tup [.int b, .int a]) n3).trans s4
    have s2 := (same_new (o := .tup [.int a, .int b]) n2).trans s3
    have s1 := (same_new (o := .tup [.int t.one, .int t.other]) n1).trans s2
    refine ⟨intsD [t.one, t.other], [intsD [a, b], intsD [b, a]], IntsV.dp ⟨p1, rfl, s2 _ _ upd_same⟩, .tup (SqT.of upd_same) (.cons (IntsV.dp ⟨p2, rfl, s3 _ _ upd_same⟩) (.cons (IntsV.dp ⟨p3, rfl, s4 _ _ upd_same⟩) .nil)), shaped_intsD _, rfl, ?_⟩
    have e : ([intsD [a, b], intsD [b, a]].any fun z => PyData.eqv z (intsD [t.one, t.other])) = joinB t a b := by
      show (PyData.eqv (intsD [a, b]) (intsD [t.one, t.other]) || (PyData.eqv (intsD [b, a]) (intsD [t.one, t.other]) || false)) = joinB t a b
      rw [eqv_two, eqv_two, Bool.or_false]
      rfl
    rw [e]
    exact q _ s1
end
def tieAt (ts : List Tie) (i : Int) : Tie := ts.getD i.toNat ⟨0, 0, false⟩
theorem tieAt_get {ts : List Tie} {i : Int} (h0 : 0 ≤ i) (h1 : i < ts.length) : ts[i.toNat]? = some (tieAt ts i) := by
  have h : i.toNat < ts.length := by omega
  unfold tieAt
  rw [List.getD_eq_getElem?_getD, List.getElem?_eq_getElem h]
  rfl
def toI : V → Int
  | .int i => i
  | _ => 0
theorem toI_map (ns : List Int) : (ns.map V.int).map toI = ns := by
  rw [List.map_map]
  exact List.map_id ns
/-- the ties join the places, each with the one behind it -/
def ringI (ts : List Tie) (ps es : List Int) : Bool := (List.range es.length).all fun k => joinB (tieAt ts (es.getD k 0)) (ps.getD k 0) (ps.getD ((k + 1) % ps.length) 0)
def ringP (n : Int) (ts : List Tie) : Option (List V) → Option (List V) → Bool
  | some ps, some es => unl n (some ps) && (unl ts.length (some es) && (decide (2 ≤ ps.length) && (decide (ps.length = es.length) && ringI ts (ps.map toI) (es.map toI))))
  | _, _ => false
def ringB (H : Hp) (n : Int) (ts : List Tie) (v : V) : Bool := match parts H v with
  | some [p, t] => ringP n ts (parts H p) (parts H t)
  | _ => false
def Part2 (H : Hp) (x : V) : Prop := Kn H x ∧ ∀ ys, parts H x = some ys → (∀ y ∈ ys, Kn H y) ∧ ys.length ≤ 1000
def Thing2 (H : Hp) (v : V) : Prop := Kn H v ∧ ∀ xs, parts H v = some xs → ∀ x ∈ xs, Part2 H x
theorem kt_parts {Ps : List Addr} {H H' : Hp} (k : Kt Ps H H') (t : Tabs Ps H) {v : V} (h : Kn H v) : parts H' v = parts H v := by
  cases v with
  | ref a =>
    unfold parts
    rcases h with ⟨xs, h⟩ | ⟨xs, h⟩ | ⟨xs, h⟩
    · simp only [h, k.lst t h]
    · simp only [h, k.tup t h]
    · simp only [h, k.dct t h]
  | _ => rfl
theorem Part2.kt {Ps : List Addr} {H H' : Hp} (k : Kt Ps H H') (t : Tabs Ps H) {v : V} (h : Part2 H v) : Part2 H' v :=
  ⟨k.kn t h.1, fun ys e => by
    rw [kt_parts k t h.1] at e
    obtain ⟨h1, h2⟩ := h.2 ys e
    exact ⟨fun y hy => k.kn t (h1 y hy), h2⟩⟩
def spRing (Ps : List Addr) : Sp := fun vs H Q _ => ∃ (wv : V) (n : Int) (ts : List Tie) (v : V), vs = [wv, v] ∧ WebAt H wv n ts ∧ WebOk n ts ∧ Thing2 H v ∧ Tabs Ps H ∧ ∀ H', Kt Ps H H' → Q (.bl (ringB H n ts v)) H'
theorem behind {ns : List Int} {k : Nat} (h2 : 2 ≤ ns.length) (hk : k < ns.length) : (ns.drop 1 ++ ns.take 1)[k]? = some (ns.getD ((k + 1) % ns.length) 0) := by
  by_cases e : k + 1 < ns.length
  · rw [List.getElem?_append_left (by rw [List.length_drop]; omega), List.getElem?_drop, Nat.mod_eq_of_lt e, show 1 + k = k + 1 from by omega, List.getD_eq_getElem?_getD, List.getElem?_eq_getElem e]
    rfl
  · have e2 : k + 1 = ns.length := by omega
    rw [List.getElem?_append_right (by rw [List.length_drop]; omega), List.length_drop, show k - (ns.length - 1) = 0 from by omega, e2, Nat.mod_self, List.getElem?_take_of_lt (by decide), List.getD_eq_getElem?_getD, List.getElem?_eq_getElem (by omega)]
    rfl
theorem cut1a {xs : List V} (h : 1 ≤ xs.length) : cutV xs (some 1) none = xs.drop 1 := by
  unfold cutV
  rw [HT.sIx_none, show (some (1 : Int)) = some ((1 : Nat) : Int) from rfl, HT.sIx_nat, Nat.min_eq_left h]
  exact List.take_of_length_le (by rw [List.length_drop]; omega)
theorem cut1b {xs : List V} (h : 1 ≤ xs.length) : cutV xs none (some 1) = xs.take 1 := by
  unfold cutV
  rw [HT.sIx_none, show (some (1 : Int)) = some ((1 : Nat) : Int) from rfl, HT.sIx_nat, Nat.min_eq_left h, List.drop_zero]
section
variable {P : Program} {w : World} {K : PySem.W.Frag} {mg : Str → Option Value} {base : Heap}
set_option maxHeartbeats 4000000 in
theorem ok_ring_holds {f c Pt : Addr} {fd : FuncData} {Ps : List Addr} (F : FunC K "ring_holds" "ring_holds" s_ring_holds f fd c) (TB : GxR.TabB base mg c Pt) (hPt : Pt ∈ Ps) (M : Free mg) (hall : mg "all" = none) (mz : mg "zip" = none) (D1 : Df P w K mg base 1 "is_tuple_of" ["length", "thing"] spTupleOf)
    (D2 : Df P w K mg base 4 "are_unlike_below" ["limit", "thing"] (spUnlike Ps)) (D3 : Df P w K mg base 1 "joins" ["tie", "one", "other"] spJoins) : FnOk P w K mg base CX0 5 f fd ["web", "thing"] (spRing Ps) := by
  obtain ⟨f1, fd1, G1, g1, k1, b1⟩ := D1
  obtain ⟨f2, fd2, G2, g2, k2, b2⟩ := D2
  obtain ⟨f3, fd3, G3, g3, k3, b3⟩ := D3
  refine F.ok sc_ring_holds (fun vs H Q E h => ?_) (fun A outer s H vs Q E hr h => ?_)
  · obtain ⟨wv, n, ts, v, rfl, _⟩ := h
    rfl
  · obtain ⟨wv, n, ts, v, rfl, ⟨wa, wb, us, rfl, hwa, hwb, hp⟩, ok, ⟨hk, hsub⟩, hT, q⟩ := h
    have hr1 : Room 1 _ := hr.mono (by decide : 1 ≤ 4)
    refine ⟨_, (pss_cons (ps_if (pt_not (pt_val (pe_call G1 hr1 (by rfl) g1 k1 b1 .nil pass0 (pa_cons pe_int (pa_cons (pv 1) pa_nil)))))
        (pss_one (ps_ret pe_bl))
        pss_nil)
      (pss_cons (ps_asg (pv 1) (pg_tup rfl (pgs_cons (pg_name (i := 2) sc_ring_holds.nd rfl (.inl rfl)) (pgs_cons (pg_name (i := 3) sc_ring_holds.nd rfl (.inl rfl)) pgs_nil))))
      (pss_cons (ps_if (PW.pt (pw_or (pt_not (pt_val (pe_call G2 hr (by rfl) g2 k2 b2 .nil pass0 (pa_cons (pe_ix ix_tup (pv 0) pe_int (fun _ _ => rfl)) (pa_cons (pv 2) pa_nil))))) (pw_or1 (pt_not (pt_val (pe_call G2 hr (by rfl) g2 k2 b2 .nil pass0 (pa_cons (pe_callB call_len_seq (by rfl) M.len PySem.boot_len (pa_cons (pe_ix ix_tup (pv 0) pe_int (fun _ _ => rfl)) pa_nil)) (pa_cons (pv 3) pa_nil))))))))
        (pss_one (ps_ret pe_bl))
        pss_nil)
      (pss_cons (ps_if (PW.pt (pw_or (pt_cmpR op_lt (pe_callB call_len_seq (by rfl) M.len PySem.boot_len (pa_cons (pv 2) pa_nil)) pe_int (nomark _)) (pw_or1 (pt_cmpR op_ne (pe_callB call_len_seq (by rfl) M.len PySem.boot_len (pa_cons (pv 2) pa_nil)) (pe_callB call_len_seq (by rfl) M.len PySem.boot_len (pa_cons (pv 3) pa_nil)) (nomark _)))))
        (pss_one (ps_ret pe_bl))
        pss_nil)
      (pss_cons (ps_set (i := 4) sc_ring_holds.nd rfl (.inl rfl) (pe_op op_catU (pe_slice sl_tupU (pv 2) (po_some pe_int) po_none) (pe_slice sl_tupU (pv 2) po_none (po_some pe_int))))
      (pss_one (ps_ret (pe_all (k := 3) (own := [("tie", 5), ("one", 6), ("other", 7)]) (g := gTup K 3 (gCons (gName 5) (gCons (gName 6) (gCons (gName 7) gNil)))) hr TB rfl rfl sc_ring_holds.nd (by rfl) hall (pi_zip3 (by rfl) mz (pa_cons (pv 3) (pa_cons (pv 2) (pa_cons (pv 4) pa_nil)))) (blkOk_by (N := N_ring_holds) (sc := defScope s_ring_holds) (own := [("tie", 5), ("one", 6), ("other", 7)]) (by decide +kernel)) ⟨rfl, by decide +kernel, by decide +kernel⟩ (show (".0" : Str) ∉ N_ring_holds by decide +kernel)
        (fun _ _ _ _ _ _ _ => pg_tup rfl (pgs_cons (pg_name (i := 5) sc_ring_holds.nd rfl (.inl rfl)) (pgs_cons (pg_name (i := 6) sc_ring_holds.nd rfl (.inl rfl)) (pgs_cons (pg_name (i := 7) sc_ring_holds.nd rfl (.inl rfl)) pgs_nil)))) (fun _ _ _ _ _ _ _ hr' => pe_call G3 (hr'.mono (by decide : 1 ≤ 3)) (by rfl) g3 k3 b3 .nil pass0 (pa_cons (pe_ix (r := rIxT K) ix_tup (pe_ix (r := rIxT K) ix_tup (pv 0) pe_int (fun _ _ => rfl)) (pv 5) (fun _ _ => rfl)) (pa_cons (pv 6) (pa_cons (pv 7) pa_nil)))))))))))), ?_⟩
    have hlen : us.length = ts.length := Paired.length hp
    have few := ok.few
    -- a pair
    refine ⟨v, rfl, 2, v, rfl, hk, _, rfl, ?_⟩
    cases hpv : parts H v with
    | none =>
      have e1 : lenIs H v 2 = false := by unfold lenIs; rw [hpv]
      have e2 : ringB H n ts v = false := by unfold ringB; rw [hpv]
      rw [e1]
      rw [e2] at q
      exact q _ (Kt.refl hT)
    | some xs =>
    obtain ⟨a, rfl, ea⟩ := parts_at hpv
    have e1 : lenIs H (.ref a) 2 = decide ((xs.length : Int) = 2) := by unfold lenIs; rw [hpv]
    rw [e1]
    match xs, hpv, ea, hsub xs hpv with
    | [], hpv, ea, _ =>
      have e2 : ringB H n ts (.ref a) = false := by unfold ringB; rw [hpv]
      rw [e2] at q
      exact q _ (Kt.refl hT)
    | [x], hpv, ea, _ =>
      have e2 : ringB H n ts (.ref a) = false := by unfold ringB; rw [hpv]
      rw [e2] at q
      exact q _ (Kt.refl hT)
    | x :: y :: z :: r, hpv, ea, _ =>
      have e2 : ringB H n ts (.ref a) = false := by unfold ringB; rw [hpv]
      rw [e2] at q
      rw [decide_eq_false (by simp only [List.length_cons]; omega)]
      exact q _ (Kt.refl hT)
    | [pv', tv], hpv, ea, hxs =>
    have e2 : ringB H n ts (.ref a) = ringP n ts (parts H pv') (parts H tv) := by unfold ringB; rw [hpv]
    rw [e2] at q
    have hP := hxs pv' (by simp)
    have hQ := hxs tv (by simp)
    clear e1 e2 hxs hsub
    refine ⟨.ref a, rfl, a, _, rfl, SqT.of ea, rfl, _, _, rfl, _, _, rfl, rfl, ?_⟩
    -- unlike places
    refine ⟨.ref wa, rfl, wa, _, 0, .int n, rfl, rfl, SqT.of hwa, rfl, pv', rfl, n, pv', rfl, hP.1, hP.2, hT, fun H1 k1' => ⟨_, rfl, ?_⟩⟩
    cases hu1 : unl n (parts H pv') with
    | false =>
      have e : ringP n ts (parts H pv') (parts H tv) = false := by
        cases h1 : parts H pv' with
        | none => rfl
        | some ps =>
          cases h2 : parts H tv with
          | none => rfl
          | some es =>
            rw [h1] at hu1
            show (unl n (some ps) && _) = false
            rw [hu1, Bool.false_and]
      rw [e] at q
      exact q _ k1'
    | true =>
    -- unlike ties
    have hwa1 := k1'.tup hT hwa
    have hwb1 := k1'.tup hT hwb
    have hQ1 := hQ.kt k1' hT
    refine ⟨.ref wa, rfl, wa, _, 1, .ref wb, rfl, rfl, SqT.of hwa1, rfl, wb, us, rfl, .inr (SqT.of hwb1), tv, rfl, _, tv, rfl, hQ1.1, hQ1.2, k1'.tab, fun H2 k2' => ⟨_, rfl, ?_⟩⟩
    rw [kt_parts k1' hT hQ.1, hlen]
    have k12 := k1'.trans k2'
    cases hu2 : unl ts.length (parts H tv) with
    | false =>
      have e : ringP n ts (parts H pv') (parts H tv) = false := by
        cases h1 : parts H pv' with
        | none => rfl
        | some ps =>
          cases h2 : parts H tv with
          | none => rfl
          | some es =>
            rw [h1] at hu1
            rw [h2] at hu2
            show (unl n (some ps) && (unl ts.length (some es) && _)) = false
            rw [hu2, Bool.false_and, Bool.and_false]
      rw [e] at q
      exact q _ k12
    | true =>
    cases h1 : parts H pv' with
    | none => rw [h1] at hu1; cases hu1
    | some ps =>
    cases h2 : parts H tv with
    | none => rw [h2] at hu2; cases hu2
    | some es =>
    rw [h1] at hu1
    rw [h2] at hu2
    rw [h1, h2] at q
    obtain ⟨pa, rfl, epa⟩ := parts_at h1
    obtain ⟨ta, rfl, eta⟩ := parts_at h2
    have epa2 := k12.tup hT epa
    have eta2 := k12.tup hT eta
    have er : ringP n ts (some ps) (some es) = (decide (2 ≤ ps.length) && (decide (ps.length = es.length) && ringI ts (ps.map toI) (es.map toI))) := by
      show (unl n (some ps) && (unl ts.length (some es) && _)) = _
      rw [hu1, hu2, Bool.true_and, Bool.true_and]
    rw [er] at q
    -- lengths
    refine ⟨.ref pa, rfl, pa, ps, rfl, .inr (SqT.of epa2), _, 2, rfl, rfl, _, rfl, ?_⟩
    by_cases l2 : 2 ≤ ps.length
    · rw [decide_eq_false (show ¬ ((ps.length : Int) < 2) by omega)]
      rw [decide_eq_true l2, Bool.true_and] at q
      refine ⟨.ref pa, rfl, pa, ps, rfl, .inr (SqT.of epa2), .ref ta, rfl, ta, es, rfl, .inr (SqT.of eta2), rfl, _, rfl, ?_⟩
      by_cases le : ps.length = es.length
      · rw [show decide (V.int (ps.length : Int) = V.int (es.length : Int)) = true from decide_eq_true (by rw [le])]
        rw [decide_eq_true le, Bool.true_and] at q
        have ha1 : ps.all (wbelow n) = true := (Bool.and_eq_true_iff.mp hu1).1
        have ha2 : es.all (wbelow ts.length) = true := (Bool.and_eq_true_iff.mp hu2).1
        obtain ⟨pn, rfl, hpn⟩ := ints_of ha1
        obtain ⟨en, rfl, hen⟩ := ints_of ha2
        rw [toI_map, toI_map] at q
        rw [List.length_map] at l2 le
        rw [List.length_map] at le
        have lps : pn.length ≤ 1000 := by have := (hP.2 _ h1).2; rw [List.length_map] at this; exact this
        -- followers
        refine ⟨.ref pa, rfl, 1, rfl, pa, _, rfl, epa2, fun r1 H3 s3 h3 => ⟨.ref pa, rfl, 1, rfl, pa, _, rfl, s3 _ _ epa2, fun r2 H4 s4 h4 => ⟨r1, r2, _, _, rfl, rfl, s4 _ _ h3, h4, ?_, fun r3 H5 s5 h5 => ?_⟩⟩⟩
        · have z1 := cutV_length (pn.map V.int) (some 1) none
          have z2 := cutV_length (pn.map V.int) none (some 1)
          rw [List.length_map] at z1 z2
          omega
        rw [cut1a (by rw [List.length_map]; omega), cut1b (by rw [List.length_map]; omega), ← List.map_drop, ← List.map_take, ← List.map_append] at h5
        have k5 := k12.trans (Kt.same k12.tab ((s3.trans s4).trans s5))
        have hwa5 := k5.tup hT hwa
        have hwb5 := k5.tup hT hwb
        have epa5 := k5.tup hT epa
        have eta5 := k5.tup hT eta
        have hp5 := ties_tk (k5.tk hT) hp
        clear s3 s4 s5 h3 h4 epa2 eta2 hwa1 hwb1
        have lfo : (pn.drop 1 ++ pn.take 1).length = pn.length := by rw [List.length_append, List.length_drop, List.length_take]; omega
        have nth : ∀ k : Nat, k < en.length → ∃ (cc : Addr), H5 cc = some (.tup [.int (tieAt ts (en.getD k 0)).one, .int (tieAt ts (en.getD k 0)).other, .str (kindS (tieAt ts (en.getD k 0)).foe)]) ∧ atI us (en.getD k 0) = some (.ref cc) := fun k hk => by
          have hm : en.getD k 0 ∈ en := by
            rw [List.getD_eq_getElem?_getD, List.getElem?_eq_getElem hk]
            exact List.getElem_mem hk
          obtain ⟨z0, z1⟩ := hen _ hm
          obtain ⟨u, eu, cc, rfl, hcc⟩ := Paired.at' hp5 (tieAt_get z0 z1)
          exact ⟨cc, hcc, atI_of z0 eu⟩
        refine ⟨.ref ta, rfl, .ref pa, rfl, .ref r3, rfl, ta, pa, r3, _, _, _, rfl, SqT.of eta5, SqT.of epa5, SqT.of h5, k5.tab Pt hPt, fun i m H' => i + m = en.length ∧ Kt Ps H5 H' ∧ (List.range i).all (fun k => joinB (tieAt ts (en.getD k 0)) (pn.getD k 0) (pn.getD ((k + 1) % pn.length) 0)) = true, fun H6 t6 => ⟨en.length, by omega, Kt.tabbed k5.tab hPt t6, rfl⟩, fun i m H6 hw => ?_⟩
        obtain ⟨em, k6, hal⟩ := hw
        have eta6 := k6.tup k5.tab eta5
        have epa6 := k6.tup k5.tab epa5
        have h6 := k6.tup k5.tab h5
        by_cases hi : i < en.length
        · refine .inr ⟨⟨_, _, _, ⟨SqT.of eta6, SqT.of epa6, SqT.of h6⟩, by rw [List.length_map]; exact hi, by rw [List.length_map, List.length_map]; exact le, by rw [List.length_map, List.length_map, lfo]; exact le⟩, fun H7 => Kt Ps H5 H7 ∧ (List.range (i + 1)).all (fun k => joinB (tieAt ts (en.getD k 0)) (pn.getD k 0) (pn.getD ((k + 1) % pn.length) 0)) = true, fun H7 n7 => ⟨m - 1, by omega, by omega, n7.1, n7.2⟩, fun x H7 hy => ?_⟩
          obtain ⟨T, x1, x2, x3, rfl, nT, rfl, y1, y2, y3⟩ := hy
          have ex1 : x1 = .int (en.getD i 0) := by
            have z := y1 _ (SqT.of eta6)
            rw [List.getElem?_map, List.getElem?_eq_getElem hi] at z
            rw [List.getD_eq_getElem?_getD, List.getElem?_eq_getElem hi]
            exact (Option.some.inj z).symm
          have ex2 : x2 = .int (pn.getD i 0) := by
            have z := y2 _ (SqT.of epa6)
            rw [List.getElem?_map, List.getElem?_eq_getElem (show i < pn.length by omega)] at z
            rw [List.getD_eq_getElem?_getD, List.getElem?_eq_getElem (show i < pn.length by omega)]
            exact (Option.some.inj z).symm
          have ex3 : x3 = .int (pn.getD ((i + 1) % pn.length) 0) := by
            have z := y3 _ (SqT.of h6)
            rw [List.getElem?_map, behind l2 (by omega)] at z
            exact (Option.some.inj z).symm
          subst ex1
          subst ex2
          subst ex3
          obtain ⟨cc, hcc, acc⟩ := nth i hi
          have k7 := k6.trans (Kt.same k6.tab (same_new (o := .tup [.int (en.getD i 0), .int (pn.getD i 0), .int (pn.getD ((i + 1) % pn.length) 0)]) nT))
          refine ⟨T, _, rfl, SqT.of upd_same, rfl, _, _, rfl, _, _, rfl, _, _, rfl, rfl, rfl, .ref wa, rfl, wa, _, 1, .ref wb, rfl, rfl, SqT.of (k7.tup k5.tab hwa5), rfl, .int (en.getD i 0), rfl, wb, us, _, .ref cc, rfl, rfl, SqT.of (k7.tup k5.tab hwb5), acc, .int (pn.getD i 0), rfl, .int (pn.getD ((i + 1) % pn.length) 0), rfl, cc, _, _, tieAt ts (en.getD i 0), rfl, k7.tup k5.tab hcc, fun H8 s8 => ⟨_, rfl, ?_⟩⟩
          have k8 := k7.trans (Kt.same k7.tab s8)
          cases hj : joinB (tieAt ts (en.getD i 0)) (pn.getD i 0) (pn.getD ((i + 1) % pn.length) 0) with
          | true =>
            refine ⟨k8, ?_⟩
            rw [List.range_succ, List.all_append, hal]
            simp only [List.all_cons, List.all_nil, hj, Bool.and_true]
          | false =>
            have no : ringI ts pn en = false := by
              unfold ringI
              rw [Bool.eq_false_iff]
              intro z
              rw [List.all_eq_true] at z
              rw [z i (List.mem_range.mpr hi)] at hj
              cases hj
            rw [no] at q
            exact q _ (k5.trans k8)
        · have ei : i = en.length := by omega
          refine .inl ⟨⟨_, _, _, ⟨SqT.of eta6, SqT.of epa6, SqT.of h6⟩, by rw [List.length_map, ei], by rw [List.length_map, ei]; exact le, by rw [List.length_map, lfo, ei]; exact le⟩, ?_⟩
          rw [ei] at hal
          have yes : ringI ts pn en = true := hal
          rw [yes] at q
          exact q _ (k5.trans k6)
      · rw [show decide (V.int (ps.length : Int) = V.int (es.length : Int)) = false from decide_eq_false (fun z => le (by have := V.int.inj z; omega))]
        rw [decide_eq_false le, Bool.false_and] at q
        exact q _ k12
    · rw [decide_eq_true (show ((ps.length : Int) < 2) by omega)]
      rw [decide_eq_false l2, Bool.false_and] at q
      exact q _ k12
end
def foesI (ts : List Tie) (es : List Int) : Nat := (es.filter fun e => (tieAt ts e).foe).length
theorem foesI_take (ts : List Tie) (es : List Int) {i : Nat} {e : Int} (h : es[i]? = some e) : (es.take (i + 1)).filter (fun e => (tieAt ts e).foe) = (es.take i).filter (fun e => (tieAt ts e).foe) ++ (if (tieAt ts e).foe = true then [e] else []) := by
  rw [List.take_add_one, h, List.filter_append]
  congr 1
  show List.filter _ [e] = _
  rw [List.filter_cons]
  rfl
def spFoes : Sp := fun vs H Q _ => ∃ (wv : V) (n : Int) (ts : List Tie) (a ta : Addr) (p : V) (es : List Int), vs = [wv, .ref a] ∧ WebAt H wv n ts ∧ H a = some (.tup [p, .ref ta]) ∧ H ta = some (.tup (es.map V.int)) ∧ (∀ e ∈ es, 0 ≤ e ∧ e < (ts.length : Int)) ∧ es.length ≤ 1000 ∧
  ∀ H', Same H H' → Q (.int (foesI ts es)) H'
/-- a ring with an odd number of foes -/
def oddB (H : Hp) (n : Int) (ts : List Tie) (v : V) : Bool := ringB H n ts v && (match parts H v with
  | some [_, t] => (match parts H t with
    | some es => decide (foesI ts (es.map toI) % 2 = 1)
    | none => false)
  | _ => false)
def spOdd (Ps : List Addr) : Sp := fun vs H Q _ => ∃ (wv : V) (n : Int) (ts : List Tie) (v : V), vs = [wv, v] ∧ WebAt H wv n ts ∧ WebOk n ts ∧ Thing2 H v ∧ Tabs Ps H ∧ ∀ H', Kt Ps H H' → Q (.bl (oddB H n ts v)) H'
/-- what a ring is: a pair of rows of numbers -/
theorem ring_is {H : Hp} {n : Int} {ts : List Tie} {v : V} (h : ringB H n ts v = true) : ∃ (a pa ta : Addr) (pn en : List Int), v = .ref a ∧ H a = some (.tup [.ref pa, .ref ta]) ∧ H pa = some (.tup (pn.map V.int)) ∧ H ta = some (.tup (en.map V.int)) ∧ (∀ p ∈ pn, 0 ≤ p ∧ p < n) ∧ (∀ e ∈ en, 0 ≤ e ∧ e < (ts.length : Int)) ∧ pn.Nodup ∧ en.Nodup ∧ 2 ≤ pn.length ∧ pn.length = en.length ∧ ringI ts pn en = true := by
  unfold ringB at h
  cases hpv : parts H v with
  | none => rw [hpv] at h; cases h
  | some xs =>
    rw [hpv] at h
    obtain ⟨a, rfl, ea⟩ := parts_at hpv
    match xs, h, ea with
    | [p, t], h, ea =>
      change ringP n ts (parts H p) (parts H t) = true at h
      cases h1 : parts H p with
      | none => rw [h1] at h; cases h
      | some ps =>
        cases h2 : parts H t with
        | none => rw [h1, h2] at h; cases h
        | some es =>
          rw [h1, h2] at h
          obtain ⟨pa, rfl, epa⟩ := parts_at h1
          obtain ⟨ta, rfl, eta⟩ := parts_at h2
          change (unl n (some ps) && (unl ts.length (some es) && (decide (2 ≤ ps.length) && (decide (ps.length = es.length) && ringI ts (ps.map toI) (es.map toI))))) = true at h
          simp only [Bool.and_eq_true, decide_eq_true_iff] at h
          obtain ⟨u1, u2, l2, le, hr⟩ := h
          have v1 : ps.all (wbelow n) = true ∧ decide ps.Nodup = true := Bool.and_eq_true_iff.mp u1
          have v2 : es.all (wbelow ts.length) = true ∧ decide es.Nodup = true := Bool.and_eq_true_iff.mp u2
          obtain ⟨pn, rfl, hpn⟩ := ints_of v1.1
          obtain ⟨en, rfl, hen⟩ := ints_of v2.1
          rw [toI_map, toI_map] at hr
          rw [List.length_map] at l2 le
          rw [List.length_map] at le
          exact ⟨a, pa, ta, pn, en, rfl, ea, epa, eta, hpn, hen, nodup_ints.mp (of_decide_eq_true v1.2), nodup_ints.mp (of_decide_eq_true v2.2), l2, le, hr⟩
section
variable {P : Program} {w : World} {K : PySem.W.Frag} {mg : Str → Option Value} {base : Heap}
theorem ok_foes_in {f : Addr} {fd : FuncData} (F : Fun K "foes_in" "foes_in" s_foes_in f fd) (M : Free mg) : FnOk P w K mg base CX0 1 f fd ["web", "ring"] spFoes := by
  refine F.ok sc_foes_in (fun vs H Q E h => ?_) (fun cdv A outer s H vs Q E hr h => ?_)
  · obtain ⟨wv, n, ts, a, ta, p, es, rfl, _⟩ := h
    rfl
  · obtain ⟨wv, n, ts, a, ta, p, es, rfl, ⟨wa, wb, us, rfl, hwa, hwb, hp⟩, ha, hta, hes, lm, q⟩ := h
    refine ⟨_, (pss_one (ps_ret (pe_callB call_len_seq (by rfl) M.len PySem.boot_len (pa_cons (pe_lc (own := [("tie", 2)]) (g := gName 2) (te := tVar 2) rfl sc_foes_in.nd (pi_tup (pe_ix ix_tup (pv 1) pe_int (fun _ _ => rfl))) (blkOk_by (N := N_foes_in) (sc := defScope s_foes_in) (own := [("tie", 2)]) (by decide +kernel)) (fun _ _ _ _ _ => (pg_name (i := 2) sc_foes_in.nd rfl (.inl rfl))) (fun _ _ _ _ _ => (pts_one (pt_cmpR op_eq (pe_ix (r := rIxT K) ix_tup (pe_ix (r := rIxT K) ix_tup (pe_ix (r := rIxT K) ix_tup (pv 0) pe_int (fun _ _ => rfl)) (pv 2) (fun _ _ => rfl)) pe_int (fun _ _ => rfl)) pe_str (nomark _)))) (fun _ _ _ _ _ => (pv 2))) pa_nil)))), ?_⟩
    refine ⟨.ref a, rfl, a, _, 1, .ref ta, rfl, rfl, SqT.of ha, rfl, ta, rfl, ⟨_, SqT.of hta⟩, fun Z nZ => ?_⟩
    refine lc_tup (xs := es.map V.int) (fun j H' => H' = upd H Z (.lst (((es.take j).filter fun e => (tieAt ts e).foe).map V.int))) rfl (fun j H' _ h => by rw [h]; exact SqT.of (same_new nZ _ _ hta)) ?_ ?_
    · rintro j x H' ex rfl
      rw [List.getElem?_map] at ex
      obtain ⟨e, he, rfl⟩ := Option.map_eq_some_iff.mp ex
      obtain ⟨z0, z1⟩ := hes e (List.mem_of_getElem? he)
      have hj := (List.getElem?_eq_some_iff.mp he).1
      have s1 := same_new (o := .lst (((es.take j).filter fun e => (tieAt ts e).foe).map V.int)) nZ
      obtain ⟨u, eu, cc, rfl, hcc⟩ := Paired.at' hp (tieAt_get z0 z1)
      refine ⟨rfl, .ref wa, rfl, wa, _, 1, .ref wb, rfl, rfl, SqT.of (s1 _ _ hwa), rfl, .int e, rfl, wb, us, e, .ref cc, rfl, rfl, SqT.of (s1 _ _ hwb), atI_of z0 eu, cc, _, 2, _, rfl, rfl, SqT.of (s1 _ _ hcc), rfl, rfl, _, rfl, ?_⟩
      rw [foesI_take ts es he, List.map_append]
      have lf : ((es.take j).filter fun e => (tieAt ts e).foe).length ≤ j := by
        have := List.length_filter_le (fun e => (tieAt ts e).foe) (es.take j)
        rw [List.length_take] at this
        omega
      cases hf : (tieAt ts e).foe with
      | true =>
        refine ⟨.int e, rfl, _, upd_same, by rw [List.length_map]; exact small1000 (by omega), ?_⟩
        funext b
        by_cases eb : b = Z
        · subst eb
          rw [upd_same, upd_same]
          rfl
        · rw [upd_ne eb, upd_ne eb, upd_ne eb]
      | false =>
        show upd H Z _ = upd H Z (.lst (((es.take j).filter fun e => (tieAt ts e).foe).map V.int ++ []))
        rw [List.append_nil]
    · rintro H' rfl
      rw [List.length_map, List.take_length]
      refine ⟨Z, _, rfl, .inl (SqL.of upd_same), ?_⟩
      rw [List.length_map]
      exact q _ (same_new nZ)
theorem ok_odd_ring {f : Addr} {fd : FuncData} {Ps : List Addr} (F : Fun K "odd_ring_holds" "odd_ring_holds" s_odd_ring_holds f fd) (D1 : Df P w K mg base 5 "ring_holds" ["web", "thing"] (spRing Ps)) (D2 : Df P w K mg base 1 "foes_in" ["web", "ring"] spFoes) : FnOk P w K mg base CX0 6 f fd ["web", "thing"] (spOdd Ps) := by
  obtain ⟨f1, fd1, G1, g1, k1, b1⟩ := D1
  obtain ⟨f2, fd2, G2, g2, k2, b2⟩ := D2
  refine F.ok sc_odd_ring_holds (fun vs H Q E h => ?_) (fun cdv A outer s H vs Q E hr h => ?_)
  · obtain ⟨wv, n, ts, v, rfl, _⟩ := h
    rfl
  · obtain ⟨wv, n, ts, v, rfl, hW, ok, hv, hT, q⟩ := h
    have hr1 : Room 1 _ := hr.mono (by decide : 1 ≤ 5)
    refine ⟨_, (pss_one (ps_ret (pe_and (pe_call G1 hr (by rfl) g1 k1 b1 .nil pass0 (pa_cons (pv 0) (pa_cons (pv 1) pa_nil))) (pe_one (pe_cmpR op_eq (pe_op op_mod (pe_call G2 hr1 (by rfl) g2 k2 b2 .nil pass0 (pa_cons (pv 0) (pa_cons (pv 1) pa_nil))) pe_int) pe_int (nomark _)))))), ?_⟩
    refine ⟨wv, rfl, v, rfl, wv, n, ts, v, rfl, hW, ok, hv, hT, fun H1 k => ⟨_, rfl, ?_⟩⟩
    cases hb : ringB H n ts v with
    | false =>
      have e : oddB H n ts v = false := by unfold oddB; rw [hb, Bool.false_and]
      rw [e] at q
      exact q _ k
    | true =>
      obtain ⟨a, pa, ta, pn, en, rfl, ea, epa, eta, _, hen, _, ndE, _, le, _⟩ := ring_is hb
      have lm : en.length ≤ 1000 := by
        have z := (hv.2 _ (parts_of' ea) (.ref ta) (by simp)).2 _ (parts_of' eta)
        have := z.2
        rw [List.length_map] at this
        exact this
      refine ⟨wv, rfl, .ref a, rfl, wv, n, ts, a, ta, .ref pa, en, rfl, hW.tk (k.tk hT), k.tup hT ea, k.tup hT eta, hen, lm, fun H2 s2 => ⟨_, 2, rfl, rfl, show (0 : Int) < 2 by decide, rfl, ?_⟩⟩
      have e : oddB H n ts (.ref a) = decide (V.int ((foesI ts en : Nat) % 2 : Int) = V.int 1) := by
        unfold oddB
        rw [hb, parts_of' ea]
        simp only [parts_of' eta, toI_map, Bool.true_and]
        rw [decide_eq_decide]
        constructor
        · intro z
          congr 1
          omega
        · intro z
          have := V.int.inj z
          omega
      rw [← e]
      exact q _ (k.trans (Kt.same k.tab s2))
end
/-! ### rising rows -/
def ltV : V → V → Bool
  | .int a, .int b => decide (a < b)
  | _, _ => false
def chainB (xs : List V) : Bool := (xs.zip (xs.drop 1)).all fun p => ltV p.1 p.2
def riseB (H : Hp) (lim : Int) (v : V) : Bool := match parts H v with
  | some xs => xs.all (wbelow lim) && chainB xs
  | none => false
def RowK (H : Hp) (v : V) : Prop := Kn H v ∧ ∀ xs, parts H v = some xs → (∀ x ∈ xs, Kn H x) ∧ xs.length ≤ 1000
def spRising (Ps : List Addr) : Sp := fun vs H Q _ => ∃ (lim : Int) (v : V), vs = [.int lim, v] ∧ RowK H v ∧ Tabs Ps H ∧ ∀ H', Kt Ps H H' → Q (.bl (riseB H lim v)) H'
theorem take_all {α : Type} {xs : List α} {p : α → Bool} {i : Nat} {x : α} (h : xs[i]? = some x) (ha : (xs.take i).all p = true) : (xs.take (i + 1)).all p = p x := by
  rw [List.take_add_one, h, List.all_append, ha]
  simp
theorem all_not {α : Type} {xs : List α} {p : α → Bool} {i : Nat} {x : α} (h : xs[i]? = some x) (hp : p x = false) : xs.all p = false := by
  rw [Bool.eq_false_iff]
  intro z
  rw [List.all_eq_true] at z
  rw [z x (List.mem_of_getElem? h)] at hp
  cases hp
theorem zip_at {α β : Type} {xs : List α} {ys : List β} {i : Nat} {x : α} {y : β} (h : xs[i]? = some x) (g : ys[i]? = some y) : (xs.zip ys)[i]? = some (x, y) := by
  rw [List.getElem?_zip_eq_some]
  exact ⟨h, g⟩
theorem kt_kn_parts {Ps : List Addr} {H H' : Hp} (k : Kt Ps H H') (t : Tabs Ps H) {v : V} (h : Kn H v) : parts H' v = parts H v := by
  cases v with
  | ref a =>
    unfold parts
    rcases h with ⟨xs, h⟩ | ⟨xs, h⟩ | ⟨xs, h⟩
    · simp only [h, k.lst t h]
    · simp only [h, k.tup t h]
    · simp only [h, k.dct t h]
  | _ => rfl
theorem RowK.kt {Ps : List Addr} {H H' : Hp} {v : V} (h : RowK H v) (k : Kt Ps H H') (t : Tabs Ps H) : RowK H' v := ⟨k.kn t h.1, fun xs e => by
  rw [kt_kn_parts k t h.1] at e
  exact ⟨fun x hx => k.kn t ((h.2 xs e).1 x hx), (h.2 xs e).2⟩⟩
theorem rise_kt {Ps : List Addr} {H H' : Hp} {v : V} (h : RowK H v) (k : Kt Ps H H') (t : Tabs Ps H) (lim : Int) : riseB H' lim v = riseB H lim v := by
  unfold riseB
  rw [kt_kn_parts k t h.1]
theorem cut_tail (xs : List V) : cutV xs (some 1) none = xs.drop 1 := by
  unfold cutV
  rw [HT.sIx_none, show (1 : Int) = ((1 : Nat) : Int) from rfl, HT.sIx_nat]
  cases xs with
  | nil => rfl
  | cons x r =>
    rw [Nat.min_eq_left (by simp)]
    exact List.take_of_length_le (by simp)
section
variable {P : Program} {w : World} {K : PySem.W.Frag} {mg : Str → Option Value} {base : Heap}
theorem ok_are_rising_below {f c Pt : Addr} {fd : FuncData} {Ps : List Addr} (F : FunC K "are_rising_below" "are_rising_below" s_are_rising_below f fd c) (TB : GxR.TabB base mg c Pt) (hPt : Pt ∈ Ps) (M : Free mg) (m_all : mg "all" = none) (m_zip : mg "zip" = none) (D_is_whole_below : Df P w K mg base 2 "is_whole_below" ["limit", "thing"] spBelow) : FnOk P w K mg base CX0 4 f fd ["limit", "thing"] (spRising Ps) := by
  obtain ⟨f_is_whole_below, fd_is_whole_below, G_is_whole_below, g_is_whole_below, k_is_whole_below, b_is_whole_below⟩ := D_is_whole_below
  refine F.ok sc_are_rising_below (fun vs H Q E h => ?_) (fun A outer s H vs Q E hr h => ?_)
  · obtain ⟨lim, v, rfl, _⟩ := h
    rfl
  · obtain ⟨lim, v, rfl, ⟨kv, kp⟩, hT, q⟩ := h
    refine ⟨_, (Evl.pss_cut (ps_if (PW.pt (pw_or (pt_not (pt_val (pe_callB call_isi (by rfl) M.isinstance (by decide +kernel) (pa_cons (pv 1) (pa_cons (pe_bltn (v := .ty "tuple") (by rfl) M.tuple (by decide +kernel) rfl) pa_nil))))) (pw_or1 (pt_not (pt_val (pe_all (k := 2) (own := [("number", 2)]) (g := gName 2) hr TB rfl rfl sc_are_rising_below.nd (by rfl) m_all (pi_tup (pv 1)) (blkOk_by (N := N_are_rising_below) (sc := defScope s_are_rising_below) (own := [("number", 2)]) (by decide +kernel)) ⟨rfl, by decide +kernel, by decide +kernel⟩ (show (".0" : Str) ∉ N_are_rising_below by decide +kernel) (fun _ _ _ _ _ _ _ => (pg_name (i := 2) sc_are_rising_below.nd rfl (.inl rfl))) (fun _ _ _ _ _ _ _ hr' => (pe_call G_is_whole_below hr' (by rfl) g_is_whole_below k_is_whole_below b_is_whole_below .nil pass0 (pa_cons (pv 0) (pa_cons (pv 2) pa_nil))))))))))
        (pss_one (ps_ret pe_bl))
        pss_nil)
      (pss_one (ps_ret (pe_all (k := 2) (own := [("number", 2), ("following", 3)]) (g := gTup K 2 (gCons (gName 2) (gCons (gName 3) gNil))) hr TB rfl rfl sc_are_rising_below.nd (by rfl) m_all (RZ.pi_zipA (by rfl) m_zip (pa_cons (pv 1) (pa_cons (pe_slice sl_tupU (pv 1) (po_some pe_int) po_none) pa_nil))) (blkOk_by (N := N_are_rising_below) (sc := defScope s_are_rising_below) (own := [("number", 2), ("following", 3)]) (by decide +kernel)) ⟨rfl, by decide +kernel, by decide +kernel⟩ (show (".0" : Str) ∉ N_are_rising_below by decide +kernel) (fun _ _ _ _ _ _ _ => (pg_tup rfl (pgs_cons (pg_name (i := 2) sc_are_rising_below.nd rfl (.inl rfl)) (pgs_cons (pg_name (i := 3) sc_are_rising_below.nd rfl (.inl rfl)) pgs_nil)))) (fun _ _ _ _ _ _ _ hr' => (pe_cmpR op_lt (pv 2) (pv 3) (nomark _))))))), ?_⟩
    refine ⟨fun σ' H' => σ' = [some (.int lim), some v, none, none] ∧ Kt Ps H H' ∧ ∃ a xs, v = .ref a ∧ H a = some (.tup xs) ∧ xs.all (wbelow lim) = true, ?_, ?_⟩
    · obtain ⟨t1, h1, e1⟩ := kn_tup (K := K) kv
      refine ⟨v, rfl, v, _, t1, _, _, rfl, .ty "tuple", h1, e1, _, rfl, ?_⟩
      cases hi : isT H v with
      | false =>
        unfold riseB at q
        rw [parts_none hi] at q
        exact q _ (Kt.refl hT)
      | true =>
        obtain ⟨a, xs, rfl, ha⟩ := isT_at hi
        obtain ⟨kx, lx⟩ := kp xs (parts_of' ha)
        refine ⟨.ref a, rfl, a, rfl, ⟨_, SqT.of ha⟩, hT Pt hPt, fun j m H' => j + m = xs.length ∧ Kt Ps H H' ∧ (xs.take j).all (wbelow lim) = true, fun H2 hH2 => ⟨xs.length, by omega, Kt.tabbed hT hPt hH2, rfl⟩, fun j m H' hw => ?_⟩
        obtain ⟨em, kt, hal⟩ := hw
        have ha' := kt.tup hT ha
        by_cases hj : j < xs.length
        · refine .inr ⟨⟨_, _, SqT.of ha', List.getElem?_eq_getElem hj⟩, fun H3 => Kt Ps H H3 ∧ (xs.take (j + 1)).all (wbelow lim) = true, fun H3 n3 => ⟨m - 1, by omega, by omega, n3.1, n3.2⟩, fun x H3 hy => ?_⟩
          obtain ⟨rfl, fy⟩ := hy
          have ex : xs[j]? = some x := fy _ (SqT.of ha')
          refine ⟨rfl, .int lim, rfl, x, rfl, lim, x, rfl, kt.kn hT (kx x (List.mem_of_getElem? ex)), _, rfl, ?_⟩
          cases hb : wbelow lim x with
          | true => exact ⟨kt, (take_all ex hal).trans hb⟩
          | false =>
            have no : riseB H lim (.ref a) = false := by
              unfold riseB
              rw [parts_of' ha]
              show (xs.all (wbelow lim) && chainB xs) = false
              rw [all_not ex hb]
              rfl
            rw [no] at q
            exact ⟨_, rfl, q _ kt⟩
        · refine .inl ⟨⟨_, SqT.of ha', by omega⟩, ?_⟩
          rw [List.take_of_length_le (by omega)] at hal
          exact ⟨_, rfl, rfl, kt, a, xs, rfl, ha, hal⟩
    · rintro σ' H1 ⟨rfl, kt1, a, xs, rfl, ha, hal⟩
      obtain ⟨kx, lx⟩ := kp xs (parts_of' ha)
      have er : riseB H lim (.ref a) = chainB xs := by
        unfold riseB
        rw [parts_of' ha]
        show (xs.all (wbelow lim) && chainB xs) = chainB xs
        rw [hal]
        rfl
      rw [er] at q
      have T1 : Tabs Ps H1 := kt1.tab
      have ha1 := kt1.tup hT ha
      refine ⟨.ref a, rfl, .ref a, rfl, 1, rfl, a, xs, rfl, ha1, fun r H2 s2 hr2 => ?_⟩
      rw [cut_tail] at hr2
      have k2 := Kt.same T1 s2
      have T2 : Tabs Ps H2 := k2.tab
      have ha2 := s2 _ _ ha1
      have k12 := kt1.trans k2
      refine ⟨a, r, xs, xs.drop 1, rfl, .inr ⟨SqT.of ha2, SqT.of hr2, ?_⟩⟩
      refine ⟨T2 Pt hPt, fun i m H' => i + m = xs.length - 1 ∧ Kt Ps H2 H' ∧ ((xs.zip (xs.drop 1)).take i).all (fun p => ltV p.1 p.2) = true, fun H3 hH3 => ⟨xs.length - 1, by omega, Kt.tabbed T2 hPt hH3, rfl⟩, fun i m H' hw => ?_⟩
      obtain ⟨em, kt, hal2⟩ := hw
      have ha' := kt.tup T2 ha2
      have hr' := kt.tup T2 hr2
      by_cases hi : i < xs.length - 1
      · have hd : i < (xs.drop 1).length := by rw [List.length_drop]; exact hi
        refine .inr ⟨⟨xs, xs.drop 1, _, _, SqT.of ha', SqT.of hr', List.getElem?_eq_getElem (by omega), List.getElem?_eq_getElem hd⟩, fun H3 => Kt Ps H2 H3 ∧ ((xs.zip (xs.drop 1)).take (i + 1)).all (fun p => ltV p.1 p.2) = true, fun H3 n3 => ⟨m - 1, by omega, by omega, n3.1, n3.2⟩, fun x H3 hy => ?_⟩
        obtain ⟨T, x1, y1, rfl, nT, rfl, gx, gy⟩ := hy
        have ex := gx _ (SqT.of ha')
        have ey := gy _ (SqT.of hr')
        have ez := zip_at ex ey
        have wb : ∀ z ∈ xs, ∃ k, z = .int k := fun z hz => by
          rw [List.all_eq_true] at hal
          have := hal z hz
          cases z with
          | int k => exact ⟨k, rfl⟩
          | _ => cases this
        obtain ⟨a1, rfl⟩ := wb x1 (List.mem_of_getElem? ex)
        obtain ⟨b1, rfl⟩ := wb y1 (List.mem_of_mem_drop (List.mem_of_getElem? ey))
        have s3 : Same H' (upd H' T (.tup [.int a1, .int b1])) := same_new nT
        have kt3 := kt.trans (Kt.same kt.tab s3)
        refine ⟨T, _, rfl, SqT.of upd_same, rfl, _, _, rfl, _, _, rfl, rfl, rfl, .int a1, rfl, .int b1, rfl, a1, b1, rfl, rfl, _, rfl, ?_⟩
        cases hb : decide (a1 < b1) with
        | true => exact ⟨kt3, (take_all ez hal2).trans hb⟩
        | false =>
          have no : chainB xs = false := all_not ez hb
          rw [no] at q
          exact q _ (k12.trans kt3)
      · refine .inl ⟨⟨xs, xs.drop 1, SqT.of ha', SqT.of hr', .inr (by rw [List.length_drop]; omega)⟩, ?_⟩
        have lz : (xs.zip (xs.drop 1)).length ≤ i := by rw [List.length_zip, List.length_drop]; omega
        rw [List.take_of_length_le lz] at hal2
        have yes : chainB xs = true := hal2
        rw [yes] at q
        exact q _ (k12.trans kt)
end
/-! ### papers: things, and what they show -/
def PapV : Nat → Hp → V → Prop
  | 0, H, v => Kn H v ∧ parts H v = none
  | d + 1, H, v => Kn H v ∧ ∀ xs, parts H v = some xs → (∀ x ∈ xs, PapV d H x) ∧ xs.length ≤ 1000
theorem PapV.kn {d : Nat} {H : Hp} {v : V} (h : PapV d H v) : Kn H v := by
  cases d with
  | zero => exact h.1
  | succ d => exact h.1
theorem PapV.up : ∀ {d : Nat} {H : Hp} {v : V}, PapV d H v → PapV (d + 1) H v
  | 0, H, v, h => ⟨h.1, fun xs e => by rw [h.2] at e; cases e⟩
  | d + 1, H, v, h => ⟨h.1, fun xs e => ⟨fun x hx => PapV.up ((h.2 xs e).1 x hx), (h.2 xs e).2⟩⟩
theorem PapV.mono {d e : Nat} (l : d ≤ e) {H : Hp} {v : V} (h : PapV d H v) : PapV e H v := by
  induction l with
  | refl => exact h
  | step _ ih => exact ih.up
theorem PapV.part {d : Nat} {H : Hp} {v : V} (h : PapV d H v) : Part2 H v := by
  have h := h.up
  exact ⟨h.1, fun ys e => ⟨fun y hy => ((h.2 ys e).1 y hy).kn, (h.2 ys e).2⟩⟩
theorem PapV.thing {d : Nat} {H : Hp} {v : V} (h : PapV d H v) : Thing2 H v := by
  have h := h.up
  exact ⟨h.1, fun xs e x hx => ((h.2 xs e).1 x hx).part⟩
theorem PapV.row {d : Nat} {H : Hp} {v : V} (h : PapV d H v) : RowK H v := h.part
/-- what is known stays -/
def StayP (H H' : Hp) : Prop := ∀ u, Kn H u → Kn H' u ∧ parts H' u = parts H u
theorem StayP.kt {Ps : List Addr} {H H' : Hp} (k : Kt Ps H H') (t : Tabs Ps H) : StayP H H' := fun u h => ⟨k.kn t h, kt_parts k t h⟩
theorem StayP.same {H H' : Hp} (s : Same H H') : StayP H H' := fun u h => by
  cases u with
  | ref a =>
    unfold parts
    rcases h with ⟨xs, h⟩ | ⟨xs, h⟩ | ⟨xs, h⟩
    · exact ⟨.inl ⟨xs, s _ _ h⟩, by simp only [h, s _ _ h]⟩
    · exact ⟨.inr (.inl ⟨xs, s _ _ h⟩), by simp only [h, s _ _ h]⟩
    · exact ⟨.inr (.inr ⟨xs, s _ _ h⟩), by simp only [h, s _ _ h]⟩
  | _ => exact ⟨h, rfl⟩
theorem StayP.trans {H H1 H2 : Hp} (a : StayP H H1) (b : StayP H1 H2) : StayP H H2 := fun u h => ⟨(b u (a u h).1).1, ((b u (a u h).1).2).trans (a u h).2⟩
theorem PapV.stay : ∀ {d : Nat} {H H' : Hp} {v : V}, PapV d H v → StayP H H' → PapV d H' v
  | 0, H, H', v, h, s => ⟨(s v h.1).1, (s v h.1).2.trans h.2⟩
  | d + 1, H, H', v, h, s => ⟨(s v h.1).1, fun xs e => by
    rw [(s v h.1).2] at e
    exact ⟨fun x hx => PapV.stay ((h.2 xs e).1 x hx) s, (h.2 xs e).2⟩⟩
theorem ring_stay {H H' : Hp} {v : V} (h : Thing2 H v) (s : StayP H H') (n : Int) (ts : List Tie) : ringB H' n ts v = ringB H n ts v := by
  unfold ringB
  rw [(s v h.1).2]
  cases e : parts H v with
  | none => rfl
  | some xs =>
    match xs, e with
    | [], _ => rfl
    | [_], _ => rfl
    | [a, b], e =>
      show ringP n ts (parts H' a) (parts H' b) = ringP n ts (parts H a) (parts H b)
      rw [(s a (h.2 _ e a (by simp)).1).2, (s b (h.2 _ e b (by simp)).1).2]
    | _ :: _ :: _ :: _, _ => rfl
theorem odd_stay {H H' : Hp} {v : V} (h : Thing2 H v) (s : StayP H H') (n : Int) (ts : List Tie) : oddB H' n ts v = oddB H n ts v := by
  unfold oddB
  rw [ring_stay h s, (s v h.1).2]
  congr 1
  cases e : parts H v with
  | none => rfl
  | some xs =>
    match xs, e with
    | [], _ => rfl
    | [_], _ => rfl
    | [a, b], e =>
      show (match parts H' b with | some es => decide (foesI ts (es.map toI) % 2 = 1) | none => false) = (match parts H b with | some es => decide (foesI ts (es.map toI) % 2 = 1) | none => false)
      rw [(s b (h.2 _ e b (by simp)).1).2]
    | _ :: _ :: _ :: _, _ => rfl
def tiesOf (H : Hp) (ring : V) : List Int := match parts H ring with
  | some [_, t] => ((parts H t).getD []).map toI
  | _ => []
theorem tiesOf_stay {H H' : Hp} {v : V} (h : Thing2 H v) (s : StayP H H') : tiesOf H' v = tiesOf H v := by
  unfold tiesOf
  rw [(s v h.1).2]
  cases e : parts H v with
  | none => rfl
  | some xs =>
    match xs, e with
    | [], _ => rfl
    | [_], _ => rfl
    | [a, b], e =>
      show ((parts H' b).getD []).map toI = ((parts H b).getD []).map toI
      rw [(s b (h.2 _ e b (by simp)).1).2]
    | _ :: _ :: _ :: _, _ => rfl
/-- a row of rings: an odd ring, and how often -/
def rowR (H : Hp) (n : Int) (ts : List Tie) (r : V) : Option (List Int × Int) := match parts H r with
  | some [x, .int t] => if decide (1 ≤ t) && oddB H n ts x then some (tiesOf H x, t) else none
  | _ => none
theorem rowR_stay {d : Nat} {H H' : Hp} {v : V} (h : PapV d H v) (s : StayP H H') (n : Int) (ts : List Tie) : rowR H' n ts v = rowR H n ts v := by
  have h := h.up
  unfold rowR
  rw [(s v h.1).2]
  cases e : parts H v with
  | none => rfl
  | some xs =>
    match xs, e with
    | [], _ => rfl
    | [_], _ => rfl
    | [a, b], e =>
      cases b with
      | int t =>
        have ha := ((h.2 _ e).1 a (by simp)).thing
        show (if decide (1 ≤ t) && oddB H' n ts a then some (tiesOf H' a, t) else none) = (if decide (1 ≤ t) && oddB H n ts a then some (tiesOf H a, t) else none)
        rw [odd_stay ha s, tiesOf_stay ha s]
      | _ => rfl
    | _ :: y :: _ :: _, _ => cases y <;> rfl
def stepR (H : Hp) (n : Int) (ts : List Tie) : Option (List (List Int × Int)) → V → Option (List (List Int × Int))
  | none, _ => none
  | some xs, r => match rowR H n ts r with
    | none => none
    | some x => some (xs ++ [x])
def loadR (xs : List (List Int × Int)) (e : Int) : Int := (xs.map fun x => if e ∈ x.1 then x.2 else 0).sum
def totR (xs : List (List Int × Int)) : Int := (xs.map (·.2)).sum
def givR (m : Nat) (given : List Int) (xs : List (List Int × Int)) : Bool := xs.all fun x => x.1.all fun e => decide (e ∈ given) || decide ((m : Int) ≤ e)
def fitR (lim : List Int) (xs : List (List Int × Int)) : Bool := xs.all fun x => x.1.all fun e => decide ((lim.length : Int) ≤ e) || decide (loadR xs e ≤ lim.getD e.toNat 0)
def ringsS (H : Hp) (n : Int) (ts : List Tie) (lim given : List Int) (rows : List V) : Option Int := match rows.foldl (stepR H n ts) (some []) with
  | none => none
  | some xs => if givR lim.length given xs && fitR lim xs then some ((totR xs + 1) / 2) else none
/-- a row of a split: rising ties, and something for them -/
def rowT (H : Hp) (m : Nat) (r : V) : Option (List Int × V) := match parts H r with
  | some [t, p] => if riseB H m t then some (((parts H t).getD []).map toI, p) else none
  | _ => none
def stepT (H : Hp) (m : Nat) (given : List Int) (S : List Int → V → Option Int) : Option (List Int × Int) → V → Option (List Int × Int)
  | none, _ => none
  | some (tk, tot), r => match rowT H m r with
    | none => none
    | some (es, p) => if es.all (fun e => decide (e ∈ given) && !decide (e ∈ tk)) then (match S es p with
      | none => none
      | some k => some (tk ++ es, tot + k)) else none
def splitS (H : Hp) (m : Nat) (given : List Int) (S : List Int → V → Option Int) (rows : List V) : Option Int := (rows.foldl (stepT H m given S) (some ([], 0))).map (·.2)
def minO : Option Int → Option Int → Option Int
  | some x, some y => some (min x y)
  | _, _ => none
def caseS (n : Int) (S : Tie → V → Option Int) (p q a b : V) : Option Int := match p, q with
  | .int x, .int y => if wbelow n (.int x) && (wbelow n (.int y) && !decide (x = y)) then minO (S ⟨x, y, false⟩ a) (S ⟨x, y, true⟩ b) else none
  | _, _ => none
def shownS : Nat → Hp → Int → List Tie → List Int → List Int → V → Option Int
  | 0, _, _, _, _, _, _ => none
  | d + 1, H, n, ts, lim, given, v => match parts H v with
    | some [w, r] => (match parts H r with
      | none => none
      | some rows => if w = .str "rings" then ringsS H n ts lim given rows else if w = .str "split" then splitS H lim.length given (fun es p => shownS d H n ts lim es p) rows else none)
    | some [w, p, q, a, b] => if w = .str "case" then caseS n (fun t x => shownS d H n (ts ++ [t]) lim given x) p q a b else none
    | _ => none
theorem fold_at {α β : Type} {f : β → α → β} {b : β} {rows : List α} {i : Nat} {r : α} (e : rows[i]? = some r) : (rows.take (i + 1)).foldl f b = f ((rows.take i).foldl f b) r := by
  rw [List.take_add_one, e, List.foldl_append]
  rfl
theorem fold_none {α β : Type} {f : Option β → α → Option β} (hf : ∀ a, f none a = none) : ∀ rows : List α, rows.foldl f none = none
  | [] => rfl
  | r :: rs => by rw [List.foldl_cons, hf, fold_none hf rs]
theorem fold_off {α β : Type} {f : Option β → α → Option β} (hf : ∀ a, f none a = none) {b : Option β} {rows : List α} {i : Nat} (h : (rows.take i).foldl f b = none) : rows.foldl f b = none := by
  have e : rows = rows.take i ++ rows.drop i := (List.take_append_drop ..).symm
  rw [e, List.foldl_append, h]
  exact fold_none hf _
theorem stepR_none (H : Hp) (n : Int) (ts : List Tie) (r : V) : stepR H n ts none r = none := rfl
theorem stepT_none (H : Hp) (m : Nat) (given : List Int) (S : List Int → V → Option Int) (r : V) : stepT H m given S none r = none := rfl
theorem foldl_ext {α β : Type} {f g : β → α → β} : ∀ {rows : List α} {b : β}, (∀ r ∈ rows, ∀ b, f b r = g b r) → rows.foldl f b = rows.foldl g b
  | [], _, _ => rfl
  | r :: rs, b, h => by rw [List.foldl_cons, List.foldl_cons, h r List.mem_cons_self, foldl_ext fun x hx => h x (List.mem_cons_of_mem _ hx)]
theorem rowT_stay {d : Nat} {H H' : Hp} {v : V} (h : PapV d H v) (s : StayP H H') (m : Nat) : rowT H' m v = rowT H m v := by
  have h := h.up
  unfold rowT
  rw [(s v h.1).2]
  cases e : parts H v with
  | none => rfl
  | some xs =>
    have hx := (h.2 _ e).1
    match xs, hx with
    | [], _ => rfl
    | [_], _ => rfl
    | [a, b], hx =>
      have ha := hx a (by simp)
      have e4 : riseB H' m a = riseB H m a := by
        unfold riseB
        rw [(s a ha.kn).2]
      show (if riseB H' m a = true then some (((parts H' a).getD []).map toI, b) else none) = (if riseB H m a = true then some (((parts H a).getD []).map toI, b) else none)
      rw [e4, (s a ha.kn).2]
    | _ :: _ :: _ :: _, _ => rfl
theorem rowT_is {H : Hp} {m : Nat} {r : V} {es : List Int} {p : V} (h : rowT H m r = some (es, p)) : ∃ t, parts H r = some [t, p] ∧ riseB H m t = true ∧ es = ((parts H t).getD []).map toI := by
  unfold rowT at h
  cases e : parts H r with
  | none => rw [e] at h; cases h
  | some xs =>
    rw [e] at h
    match xs, h with
    | [t, q], h =>
      change (if riseB H m t = true then some (((parts H t).getD []).map toI, q) else none) = some (es, p) at h
      by_cases hb : riseB H m t = true
      · rw [if_pos hb] at h
        have h := Option.some.inj h
        obtain ⟨rfl, rfl⟩ := Prod.mk.inj h
        exact ⟨t, rfl, hb, rfl⟩
      · rw [if_neg hb] at h
        cases h
theorem rowT_pap {d : Nat} {H : Hp} {m : Nat} {r : V} {es : List Int} {p : V} (h : PapV d H r) (e : rowT H m r = some (es, p)) : PapV d H p := by
  obtain ⟨t, h1, _, _⟩ := rowT_is e
  cases d with
  | zero => rw [h.2] at h1; cases h1
  | succ d => exact (((h.2 _ h1).1 p (by simp))).up
theorem shown_stay : ∀ {d e : Nat} {H H' : Hp} {v : V}, PapV e H v → StayP H H' → ∀ (n : Int) (ts : List Tie) (lim given : List Int), shownS d H' n ts lim given v = shownS d H n ts lim given v
  | 0, _, _, _, _, _, _, _, _, _, _ => rfl
  | d + 1, e, H, H', v, h, s, n, ts, lim, given => by
    have h := h.up
    unfold shownS
    rw [(s v h.1).2]
    cases ev : parts H v with
    | none => rfl
    | some xs =>
      have hx := (h.2 _ ev).1
      match xs, hx with
      | [], _ => rfl
      | [_], _ => rfl
      | [w, r], hx =>
        have hr := (hx r (by simp)).up
        show (match parts H' r with | none => none | some rows => _) = (match parts H r with | none => none | some rows => _)
        rw [(s r hr.1).2]
        cases er : parts H r with
        | none => rfl
        | some rows =>
          have hrow := (hr.2 _ er).1
          show (if w = .str "rings" then _ else if w = .str "split" then _ else none) = (if w = .str "rings" then _ else if w = .str "split" then _ else none)
          by_cases e1 : w = .str "rings"
          · rw [if_pos e1, if_pos e1]
            unfold ringsS
            rw [foldl_ext (g := stepR H n ts) fun r hr b => by
              cases b with
              | none => rfl
              | some b =>
                show (match rowR H' n ts r with | none => none | some x => some (b ++ [x])) = (match rowR H n ts r with | none => none | some x => some (b ++ [x]))
                rw [rowR_stay (hrow r hr) s]]
          · rw [if_neg e1, if_neg e1]
            by_cases e2 : w = .str "split"
            · rw [if_pos e2, if_pos e2]
              unfold splitS
              rw [foldl_ext (g := stepT H lim.length given fun es p => shownS d H n ts lim es p) fun r hr b => ?_]
              cases b with
              | none => rfl
              | some b =>
                show (match rowT H' lim.length r with | none => none | some (es, p) => if es.all (fun e => decide (e ∈ given) && !decide (e ∈ b.1)) then (match shownS d H' n ts lim es p with | none => none | some k => some (b.1 ++ es, b.2 + k)) else none) = (match rowT H lim.length r with | none => none | some (es, p) => if es.all (fun e => decide (e ∈ given) && !decide (e ∈ b.1)) then (match shownS d H n ts lim es p with | none => none | some k => some (b.1 ++ es, b.2 + k)) else none)
                rw [rowT_stay (hrow r hr) s]
                cases e3 : rowT H lim.length r with
                | none => rfl
                | some ep =>
                  obtain ⟨es, p⟩ := ep
                  have hp := rowT_pap (hrow r hr) e3
                  show (if es.all (fun e => decide (e ∈ given) && !decide (e ∈ b.1)) then (match shownS d H' n ts lim es p with | none => none | some k => some (b.1 ++ es, b.2 + k)) else none) = (if es.all (fun e => decide (e ∈ given) && !decide (e ∈ b.1)) then (match shownS d H n ts lim es p with | none => none | some k => some (b.1 ++ es, b.2 + k)) else none)
                  rw [shown_stay hp s]
            · rw [if_neg e2, if_neg e2]
      | [_, _, _], _ => rfl
      | [_, _, _, _], _ => rfl
      | [w, p, q, a, b], hx =>
        show (if w = .str "case" then caseS n _ p q a b else none) = (if w = .str "case" then caseS n _ p q a b else none)
        congr 1
        unfold caseS
        cases p <;> cases q <;> try rfl
        simp only [shown_stay (hx a (by simp)) s, shown_stay (hx b (by simp)) s]
      | _ :: _ :: _ :: _ :: _ :: _ :: _, _ => rfl
/-! ### a thing of any kind against a text -/
section
open PySem.SeqAt PySem.MeetsSeq
open PySem.AutoSeq1 (wpAny_loadPart')
variable {A : Around} {s : Shared}
theorem str_eq_declines_dictP (b : Str) (u : Tok) (l : Addr) (o : Obj) : Meets (Builtin.«str.__eq__» ⟨[.str b u, .ref l], []⟩) (fun _ R s => s.heap.get? l = some o ∧ o.cls = .type "dict" ∧ (∃ es ep, o.data = .dict es ep) ∧ R (.ok (.ret .notImplemented)) s) :=
  .of_wp fun prog w A R s h => by
    obtain ⟨hp, g, d, tk, os⟩ := s
    obtain ⟨hl, hc, ⟨es, ep, hd⟩, h⟩ := h
    obtain ⟨cls, dd, data, sl⟩ := o
    simp only at hc hd
    subst hc hd
    wp_walk using wpAny_loadPart' hl, wpAny_load hl
    exact ⟨_, rfl, h⟩
theorem dict_eq_declines_strP (l : Addr) (o : Obj) (b : Str) (u : Tok) : Meets (Builtin.«dict.__eq__» ⟨[.ref l, .str b u], []⟩) (fun _ R s => s.heap.get? l = some o ∧ o.cls = .type "dict" ∧ (∃ es ep, o.data = .dict es ep) ∧ R (.ok (.ret .notImplemented)) s) :=
  .of_wp fun prog w A R s h => by
    obtain ⟨hp, g, d, tk, os⟩ := s
    obtain ⟨hl, hc, ⟨es, ep, hd⟩, h⟩ := h
    obtain ⟨cls, dd, data, sl⟩ := o
    simp only at hc hd
    subst hc hd
    have f1 := F.sub_str_dict
    wp_walk using wpAny_loadPart' hl
    exact ⟨_, rfl, h⟩
theorem rc_dict_str {l : Addr} {o : Obj} {es : Array DictEntry} {ep : Nat} (b : Str) (u : Tok) (ho : s.heap.get? l = some o) (hc : o.cls = .type "dict") (hd : o.data = .dict es ep) (hu : A.units < cLine) : RcAt A s (.ref l) (.str b u) false := fun prog w E Q h => by
  exact rc_eq_decline_or (k := false) ⟨_, ho, hc⟩ (typeIs_str s b u) (by decide) F.sub_str_dict F.slot_dict_eq F.slot_str_eq_refl
    (fun _ hq => call_meets F.slot_dict_eq ⟨_, ho, hc⟩ F.entry_dict_eq (F.args_dict_eq_2 _ _) (dict_eq_declines_strP l o b u) ⟨ho, hc, ⟨_, _, hd⟩, hq⟩)
    (fun _ hq => call_meets F.slot_str_eq_refl (typeIs_str s b u) F.entry_str_eq (F.args_str_eq_2 _ _) (str_eq_declines_dictP b u l o) ⟨ho, hc, ⟨_, _, hd⟩, hq⟩)
    (fun _ hq => wpAny_of_eq (rfl : isSame (.ref l) (.str b u) = pure false) hq) (.inr hu) h
end
def rEqAS : R2 := fun x y H Q => ∃ b, y = .str b ∧ Kn H x ∧ Q (.bl (decide (x = .str b))) H
theorem op_eqAS {X : Cx} (hu : X.A.units < cLine) : OpR X (compareOp .Eq) rEqAS := by
  intro pins s σ H x y v u Q I rx ry want
  obtain ⟨b, rfl, hk, q⟩ := want
  obtain ⟨k, rfl⟩ := ry
  cases x with
  | non =>
    cases rx
    exact SeqAt.RcAt.none_str b k _ _ _ _ ⟨.bl false, H, I, rfl, q⟩
  | bl a =>
    cases rx
    exact SeqAt.RcAt.bool_str a b k _ _ _ _ ⟨.bl false, H, I, rfl, q⟩
  | int a =>
    obtain ⟨t, rfl⟩ := rx
    exact SeqAt.RcAt.int_str a t b k _ _ _ _ ⟨.bl false, H, I, rfl, q⟩
  | str a =>
    obtain ⟨t, rfl⟩ := rx
    refine SeqAt.RcAt.str_str a t b k _ _ _ _ ⟨.bl (a == b), H, I, rfl, ?_⟩
    have e : decide (V.str a = V.str b) = (a == b) := by
      rw [Bool.eq_iff_iff, decide_eq_true_iff, beq_iff_eq]
      exact ⟨fun h => V.str.inj h, fun h => by rw [h]⟩
    rw [← e]
    exact q
  | ref a =>
    obtain rfl : v = Value.ref a := rx
    have q : Q (.bl false) H := q
    rcases hk with ⟨xs, h⟩ | ⟨xs, h⟩ | ⟨xs, h⟩
    · obtain ⟨its, r1, p1, _⟩ := I.list (.inl (.inl h))
      exact SeqAt.RcAt.list_str b k p1.isList hu _ _ _ _ ⟨.bl false, H, I, rfl, q⟩
    · obtain ⟨its, rv, tup, _⟩ := I.tuple (.inl (.inl h))
      exact SeqAt.RcAt.tuple_str b k tup hu _ _ _ _ ⟨.bl false, H, I, rfl, q⟩
    · obtain ⟨hz, hne, vs, kv, o2, es, ep, ho2, ed, hd2, ko, pr, nd⟩ := I.hok a _ h
      exact rc_dict_str b k ho2 ed.1 hd2 hu _ _ _ _ ⟨.bl false, H, I, rfl, q⟩
  | _ => exact hk.elim
theorem room1 {k : Nat} {A : PySem.Around} (r : Room k A) : A.units + 1 < cLine := by have := r.un; omega
def rLen49 (K : PySem.W.Frag) : List V → Hp → VK → Prop := fun xs H Q => ∃ p ys, xs = [V.ref p] ∧ (SqL K H p ys ∨ SqT K H p ys) ∧ Q (V.int (ys.length : Nat)) H
/-! ### papers: rows of rings, rows of splits -/
def kvG (ks : List Int) : List (Key × V) := ks.map fun k => (Sum.inl k, V.bl true)
theorem kvG_val {x : Int} : ∀ {ks : List Int}, valV (kvG ks) (Sum.inl x) = if x ∈ ks then some (.bl true) else none
  | [] => rfl
  | k :: ks => by
    show valV ((Sum.inl k, V.bl true) :: kvG ks) (Sum.inl x) = _
    by_cases e : k = x
    · rw [valV_pos (p := ((Sum.inl k : Key), V.bl true)) (show (Sum.inl k : Key) = Sum.inl x by rw [e]), e, if_pos List.mem_cons_self]
    · rw [valV_neg (p := ((Sum.inl k : Key), V.bl true)) (show ¬ (Sum.inl k : Key) = Sum.inl x from fun z => e (Sum.inl.inj z)), kvG_val (ks := ks)]
      by_cases h : x ∈ ks
      · rw [if_pos h, if_pos (List.mem_cons_of_mem _ h)]
      · rw [if_neg h, if_neg fun z => h ((List.mem_cons.mp z).resolve_left fun q => e q.symm)]
theorem kvG_some {x : Int} {ks : List Int} : (valV (kvG ks) (Sum.inl x)).isSome = decide (x ∈ ks) := by
  rw [kvG_val]
  by_cases h : x ∈ ks
  · rw [if_pos h, decide_eq_true h]; rfl
  · rw [if_neg h, decide_eq_false h]; rfl
theorem len_is {H : Hp} {v : V} {n : Int} : lenIs H v n = true → ∃ xs, parts H v = some xs ∧ (xs.length : Int) = n := fun h => by
  unfold lenIs at h
  cases e : parts H v with
  | none => rw [e] at h; cases h
  | some xs => rw [e] at h; exact ⟨xs, rfl, of_decide_eq_true h⟩
theorem two_of {α : Type} : ∀ {xs : List α}, (xs.length : Int) = 2 → ∃ a b, xs = [a, b]
  | [a, b], _ => ⟨a, b, rfl⟩
  | [], h => by cases h
  | [_], h => by cases h
  | _ :: _ :: _ :: xs, h => by
    simp only [List.length_cons] at h
    omega
theorem two_not {H : Hp} {v : V} (h : lenIs H v 2 = false) {xs : List V} (e : parts H v = some xs) : ∀ a b, xs ≠ [a, b] := fun a b z => by
  subst z
  unfold lenIs at h
  rw [e] at h
  cases h
def rowOk (H : Hp) (n : Int) (ts : List Tie) (m : Nat) (given : List Int) (v : V) : Bool := match rowR H n ts v with
  | some x => x.1.all fun e => decide (e ∈ given) || decide ((m : Int) ≤ e)
  | none => false
theorem rowR_not {H : Hp} {n : Int} {ts : List Tie} {v : V} (h : lenIs H v 2 = false) : rowR H n ts v = none := by
  unfold rowR
  cases e : parts H v with
  | none => rfl
  | some xs =>
    have := two_not h e
    match xs, this with
    | [], _ => rfl
    | [_], _ => rfl
    | [a, b], t => exact (t a b rfl).elim
    | _ :: y :: _ :: _, _ => cases y <;> rfl
theorem rowR_two {H : Hp} {n : Int} {ts : List Tie} {v a b : V} (h : parts H v = some [a, b]) : rowR H n ts v = if wfrom 1 b && oddB H n ts a then some (tiesOf H a, toI b) else none := by
  unfold rowR
  rw [h]
  cases b with
  | int t => rfl
  | _ => rfl
theorem pigeon49 {m : Nat} (xs : List Int) (nd : xs.Nodup) (h : ∀ x ∈ xs, 0 ≤ x ∧ x < (m : Int)) : xs.length ≤ m := by
  have sub : ∀ (ys zs : List Int), ys.Nodup → (∀ y ∈ ys, y ∈ zs) → ys.length ≤ zs.length := fun ys => by
    induction ys with
    | nil => intro zs _ _; exact Nat.zero_le _
    | cons y ys ih =>
      intro zs nd hs
      have nd' := List.nodup_cons.mp nd
      have hy := hs y List.mem_cons_self
      have := ih (zs.erase y) nd'.2 fun w hw => (List.mem_erase_of_ne (show w ≠ y from fun z => nd'.1 (z ▸ hw))).mpr (hs w (List.mem_cons_of_mem _ hw))
      rw [List.length_erase_of_mem hy] at this
      have := List.length_pos_of_mem hy
      rw [List.length_cons]
      omega
  have := sub xs (rng m) nd fun x hx => mem_rng.mpr (h x hx)
  rw [rng_length] at this
  exact this
theorem odd_ties {H : Hp} {n : Int} {ts : List Tie} {v : V} (h : oddB H n ts v = true) : ∃ (a ta : Addr) (p : V) (en : List Int), v = .ref a ∧ H a = some (.tup [p, .ref ta]) ∧ H ta = some (.tup (en.map V.int)) ∧ tiesOf H v = en ∧ (∀ e ∈ en, 0 ≤ e ∧ e < (ts.length : Int)) ∧ en.Nodup ∧ en.length ≤ ts.length := by
  unfold oddB at h
  rw [Bool.and_eq_true] at h
  obtain ⟨a, pa, ta, pn, en, rfl, ea, epa, eta, hpn, hen, npn, nen, l2, le, _⟩ := ring_is h.1
  refine ⟨a, ta, .ref pa, en, rfl, ea, eta, ?_, hen, nen, ?_⟩
  · unfold tiesOf
    rw [parts_of' ea]
    show ((parts H (.ref ta)).getD []).map toI = en
    rw [parts_of' eta]
    exact toI_map en
  · exact pigeon49 en nen hen
/-- what a def of the checker is handed: the web with the sure ties, twice the weights, the ties that are given -/
structure KnotAt (H : Hp) (wv : V) (lv gv : Addr) (n : Int) (ts : List Tie) (lim given : List Int) : Prop where
  web : WebAt H wv n ts
  ok : WebOk n ts
  lm : H lv = some (.lst (lim.map V.int))
  few : lim.length ≤ ts.length
  giv : H gv = some (.dK (kvG given))
  inn : ∀ e ∈ given, 0 ≤ e ∧ e < (lim.length : Int)
  nd : given.Nodup
theorem KnotAt.kt {Ps : List Addr} {H H' : Hp} {wv : V} {lv gv : Addr} {n : Int} {ts : List Tie} {lim given : List Int} (h : KnotAt H wv lv gv n ts lim given) (k : Kt Ps H H') (t : Tabs Ps H) : KnotAt H' wv lv gv n ts lim given :=
  ⟨h.web.tk (k.tk t), h.ok, k.lst t h.lm, h.few, k.dct t h.giv, h.inn, h.nd⟩
def spRingRow (Ps : List Addr) : Sp := fun vs H Q _ => ∃ (wv : V) (lv gv : Addr) (v : V) (n : Int) (ts : List Tie) (lim given : List Int) (d : Nat), vs = [wv, .ref lv, .ref gv, v] ∧ KnotAt H wv lv gv n ts lim given ∧ PapV d H v ∧ Tabs Ps H ∧ ∀ H', Kt Ps H H' → Q (.bl (rowOk H n ts lim.length given v)) H'
section
variable {P : Program} {w : World} {K : PySem.W.Frag} {mg : Str → Option Value} {base : Heap}
set_option maxHeartbeats 2000000 in
theorem ok_is_ring_row {f c Pt : Addr} {fd : FuncData} {Ps : List Addr} (F : FunC K "is_ring_row" "is_ring_row" s_is_ring_row f fd c) (TB : GxR.TabB base mg c Pt) (hPt : Pt ∈ Ps) (M : Free mg) (m_all : mg "all" = none) (D_is_tuple_of : Df P w K mg base 1 "is_tuple_of" ["length", "thing"] spTupleOf) (D_odd_ring_holds : Df P w K mg base 6 "odd_ring_holds" ["web", "thing"] (spOdd Ps)) (D_is_whole_from : Df P w K mg base 2 "is_whole_from" ["low", "thing"] spFrom) : FnOk P w K mg base CX0 9 f fd ["web", "limits", "given", "thing"] (spRingRow Ps) := by
  obtain ⟨f_is_tuple_of, fd_is_tuple_of, G_is_tuple_of, g_is_tuple_of, k_is_tuple_of, b_is_tuple_of⟩ := D_is_tuple_of
  obtain ⟨f_odd_ring_holds, fd_odd_ring_holds, G_odd_ring_holds, g_odd_ring_holds, k_odd_ring_holds, b_odd_ring_holds⟩ := D_odd_ring_holds
  obtain ⟨f_is_whole_from, fd_is_whole_from, G_is_whole_from, g_is_whole_from, k_is_whole_from, b_is_whole_from⟩ := D_is_whole_from
  refine F.ok sc_is_ring_row (fun vs H Q E h => ?_) (fun A outer s H vs Q E hr h => ?_)
  · obtain ⟨wv, lv, gv, v, n, ts, lim, given, d, rfl, _⟩ := h
    rfl
  · obtain ⟨wv, lv, gv, v, n, ts, lim, given, d, rfl, hK, hP, hT, q⟩ := h
    have hu := room1 hr
    refine ⟨_, (pss_cons (ps_if (pt_not (pt_val (pe_call G_is_tuple_of (hr.mono (by decide)) (by rfl) g_is_tuple_of k_is_tuple_of b_is_tuple_of .nil pass0 (pa_cons pe_int (pa_cons (pv 3) pa_nil)))))
        (pss_one (ps_ret pe_bl))
        pss_nil)
      (pss_cons (ps_asg (pv 3) (pg_tup rfl (pgs_cons (pg_name (i := 4) sc_is_ring_row.nd rfl (.inl rfl)) (pgs_cons (pg_name (i := 5) sc_is_ring_row.nd rfl (.inl rfl)) pgs_nil))))
      (pss_cons (ps_if (PW.pt (pw_or (pt_not (pt_val (pe_call G_is_whole_from (hr.mono (by decide)) (by rfl) g_is_whole_from k_is_whole_from b_is_whole_from .nil pass0 (pa_cons pe_int (pa_cons (pv 5) pa_nil))))) (pw_or1 (pt_not (pt_val (pe_call G_odd_ring_holds (hr.mono (by decide)) (by rfl) g_odd_ring_holds k_odd_ring_holds b_odd_ring_holds .nil pass0 (pa_cons (pv 0) (pa_cons (pv 4) pa_nil))))))))
        (pss_one (ps_ret pe_bl))
        pss_nil)
      (pss_one (ps_ret (pe_all (k := 7) (own := [("tie", 6)]) (g := gName 6) hr TB rfl rfl sc_is_ring_row.nd (by rfl) m_all (pi_tup (pe_ix ix_tup (pv 4) pe_int (fun _ _ => rfl))) (blkOk_by (N := N_is_ring_row) (sc := defScope s_is_ring_row) (own := [("tie", 6)]) (by decide +kernel)) ⟨rfl, by decide +kernel, by decide +kernel⟩ (show (".0" : Str) ∉ N_is_ring_row by decide +kernel) (fun _ _ _ _ _ _ _ => (pg_name (i := 6) sc_is_ring_row.nd rfl (.inl rfl))) (fun _ _ _ _ _ _ _ hr' => (pe_or (pe_cmp (pc_din (room1 hr') (pv 6) (pv 2))) (pe_one (pe_cmpR op_ge (pv 6) (pe_callB (r := rLen49 K) call_len_seq (by rfl) M.len PySem.boot_len (pa_cons (pv 1) pa_nil)) (nomark _))))))))))), ?_⟩
    obtain ⟨hW, ok, hlim, few, hgiv, inn, ndg⟩ := hK
    have kv := hP.kn
    refine ⟨v, rfl, 2, v, rfl, kv, _, rfl, ?_⟩
    cases h2 : lenIs H v 2 with
    | false =>
      have e : rowOk H n ts lim.length given v = false := by
        unfold rowOk
        rw [rowR_not h2]
      rw [e] at q
      exact q _ (Kt.refl hT)
    | true =>
    obtain ⟨xs, hx, lx⟩ := len_is h2
    obtain ⟨a, b, rfl⟩ := two_of lx
    obtain ⟨va, rfl, hva⟩ := parts_at hx
    have hPu := hP.up
    have pa := (hPu.2 _ hx).1 a (by simp)
    have pb := (hPu.2 _ hx).1 b (by simp)
    have er := rowR_two (n := n) (ts := ts) hx
    refine ⟨.ref va, rfl, va, _, rfl, SqT.of hva, rfl, _, _, rfl, _, _, rfl, rfl, ?_⟩
    refine ⟨b, rfl, 1, b, rfl, pb.kn, _, rfl, ?_⟩
    cases hw : wfrom 1 b with
    | false =>
      have e : rowOk H n ts lim.length given (.ref va) = false := by
        unfold rowOk
        rw [er, hw]
        rfl
      rw [e] at q
      exact q _ (Kt.refl hT)
    | true =>
    refine ⟨wv, rfl, a, rfl, wv, n, ts, a, rfl, hW, ok, pa.thing, hT, fun H1 k1 => ⟨_, rfl, ?_⟩⟩
    cases ho : oddB H n ts a with
    | false =>
      have e : rowOk H n ts lim.length given (.ref va) = false := by
        unfold rowOk
        rw [er, hw, ho]
        rfl
      rw [e] at q
      exact q _ k1
    | true =>
    obtain ⟨ra, ta, p, en, rfl, hra, hta, et, hen, nen, len⟩ := odd_ties ho
    have eR : rowOk H n ts lim.length given (.ref va) = en.all fun e => decide (e ∈ given) || decide ((lim.length : Int) ≤ e) := by
      unfold rowOk
      rw [er, hw, ho, et]
      rfl
    rw [eR] at q
    have T1 : Tabs Ps H1 := k1.tab
    have fts := ok.few
    refine ⟨.ref ra, rfl, ra, _, 1, .ref ta, rfl, rfl, SqT.of (k1.tup hT hra), rfl, ta, rfl, ⟨_, SqT.of (k1.tup hT hta)⟩, ?_⟩
    refine ⟨T1 Pt hPt, fun j m H' => j + m = en.length ∧ Kt Ps H H' ∧ (en.take j).all (fun e => decide (e ∈ given) || decide ((lim.length : Int) ≤ e)) = true, fun H2 hH2 => ⟨en.length, by omega, k1.trans (Kt.tabbed T1 hPt hH2), rfl⟩, fun j m H' hw => ?_⟩
    obtain ⟨em, kt, hal⟩ := hw
    have hta' := kt.tup hT hta
    by_cases hj : j < en.length
    · refine .inr ⟨⟨_, _, SqT.of hta', List.getElem?_eq_getElem (by rw [List.length_map]; exact hj)⟩, fun H3 => Kt Ps H H3 ∧ (en.take (j + 1)).all (fun e => decide (e ∈ given) || decide ((lim.length : Int) ≤ e)) = true, fun H3 n3 => ⟨m - 1, by omega, by omega, n3.1, n3.2⟩, fun x H3 hy => ?_⟩
      obtain ⟨rfl, fy⟩ := hy
      have ex := fy _ (SqT.of hta')
      rw [List.getElem?_map, List.getElem?_eq_getElem hj] at ex
      cases ex
      have ee := List.getElem?_eq_getElem hj
      refine ⟨rfl, .int en[j], rfl, .ref gv, rfl, gv, _, rfl, DGet.k (k := Sum.inl en[j]) (kt.dct hT hgiv), ?_⟩
      rw [kvG_some]
      cases hb : decide (en[j] ∈ given) with
      | true => exact ⟨_, rfl, _, rfl, kt, (take_all ee hal).trans (by rw [hb]; rfl)⟩
      | false =>
        refine ⟨_, rfl, .int en[j], rfl, .ref lv, rfl, lv, _, rfl, .inl (SqL.of (kt.lst hT hlim)), _, _, rfl, rfl, _, rfl, ?_⟩
        rw [List.length_map]
        cases hc : decide (en[j] ≥ (lim.length : Int)) with
        | true => exact ⟨kt, (take_all ee hal).trans (by rw [hb]; exact hc)⟩
        | false =>
          have no : (en.all fun e => decide (e ∈ given) || decide ((lim.length : Int) ≤ e)) = false := all_not ee (by rw [hb]; exact hc)
          rw [no] at q
          exact q _ kt
    · refine .inl ⟨⟨_, SqT.of hta', by rw [List.length_map]; omega⟩, ?_⟩
      rw [List.take_of_length_le (by omega)] at hal
      rw [hal] at q
      exact q _ kt
end
/-! ### papers: what rings show -/
def kvI (ks : List Int) (f : Int → Int) : List (Key × V) := ks.map fun k => (Sum.inl k, V.int (f k))
def addI (ks : List Int) (x : Int) : List Int := if x ∈ ks then ks else ks ++ [x]
theorem addI_mem {ks : List Int} {x y : Int} : y ∈ addI ks x ↔ y ∈ ks ∨ y = x := by
  unfold addI
  split
  · rename_i h
    exact ⟨.inl, fun z => z.elim id fun e => e ▸ h⟩
  · simp
theorem addI_nd {ks : List Int} {x : Int} (nd : ks.Nodup) : (addI ks x).Nodup := by
  unfold addI
  split
  · exact nd
  · rename_i h
    exact List.nodup_append.mpr ⟨nd, by simp, fun a ha b hb e => h (by rw [List.mem_singleton.mp hb] at e; exact e ▸ ha)⟩
theorem kvI_val {f : Int → Int} {x : Int} : ∀ {ks : List Int}, valV (kvI ks f) (Sum.inl x) = if x ∈ ks then some (.int (f x)) else none
  | [] => rfl
  | k :: ks => by
    show valV ((Sum.inl k, V.int (f k)) :: kvI ks f) (Sum.inl x) = _
    by_cases e : k = x
    · rw [valV_pos (p := ((Sum.inl k : Key), V.int (f k))) (show (Sum.inl k : Key) = Sum.inl x by rw [e]), e, if_pos List.mem_cons_self]
    · rw [valV_neg (p := ((Sum.inl k : Key), V.int (f k))) (show ¬ (Sum.inl k : Key) = Sum.inl x from fun z => e (Sum.inl.inj z)), kvI_val (ks := ks)]
      by_cases h : x ∈ ks
      · rw [if_pos h, if_pos (List.mem_cons_of_mem _ h)]
      · rw [if_neg h, if_neg fun z => h ((List.mem_cons.mp z).resolve_left fun q => e q.symm)]
theorem kvI_get {f : Int → Int} {ks : List Int} {x : Int} (h0 : x ∉ ks → f x = 0) : (valV (kvI ks f) (Sum.inl x)).getD (.int 0) = .int (f x) := by
  rw [kvI_val]
  by_cases h : x ∈ ks
  · rw [if_pos h]; rfl
  · rw [if_neg h, h0 h]; rfl
theorem kvI_put {f g : Int → Int} {ks : List Int} {x : Int} (hg : ∀ k, g k = if k = x then g x else f k) : putK (kvI ks f) (Sum.inl x) (.int (g x)) = kvI (addI ks x) g := by
  have same : ∀ k, k ≠ x → g k = f k := fun k hk => by rw [hg k, if_neg hk]
  unfold putK
  rw [valV_any, kvI_val]
  unfold addI
  by_cases h : x ∈ ks
  · rw [if_pos h, if_pos h]
    show List.map (fun kv : Key × V => if kv.1 = Sum.inl x then (kv.1, V.int (g x)) else kv) (kvI ks f) = _
    unfold kvI
    rw [List.map_map]
    refine List.map_congr_left fun k _ => ?_
    show (if (Sum.inl k : Key) = Sum.inl x then ((Sum.inl k : Key), V.int (g x)) else (Sum.inl k, V.int (f k))) = _
    by_cases e : k = x
    · rw [e, if_pos rfl]
    · rw [if_neg fun z => e (Sum.inl.inj z), same k e]
  · rw [if_neg h, if_neg h, if_neg (by simp)]
    unfold kvI
    rw [List.map_append]
    refine congr (congrArg _ (List.map_congr_left fun k hk => ?_)) rfl
    rw [same k fun z => h (z ▸ hk)]
theorem Kt.mutN {Ps : List Addr} {H H' : Hp} {a : Addr} {o : HO} (k : Kt Ps H H') (t : Tabs Ps H) (n : H a = none) : Kt Ps H (upd H' a o) := by
  have na : a ∉ Ps := fun z => by
    obtain ⟨ps, e, _⟩ := t a z
    rw [n] at e
    cases e
  refine ⟨fun P hP => ?_, fun b o' hb e => ?_⟩
  · obtain ⟨ps, e, t'⟩ := k.tab P hP
    exact ⟨ps, by rw [upd_ne (show P ≠ a from fun z => na (z ▸ hP))]; exact e, t'⟩
  · rw [upd_ne (fun z => by rw [z, n] at e; cases e)]
    exact k.keep b o' hb e
def optV : Option Int → V
  | none => .non
  | some k => .int k
theorem loadR_snoc (xs : List (List Int × Int)) (x : List Int × Int) (e : Int) : loadR (xs ++ [x]) e = loadR xs e + (if e ∈ x.1 then x.2 else 0) := by
  unfold loadR
  rw [List.map_append, List.sum_append]
  simp
theorem totR_snoc (xs : List (List Int × Int)) (x : List Int × Int) : totR (xs ++ [x]) = totR xs + x.2 := by
  unfold totR
  rw [List.map_append, List.sum_append]
  simp
def tiesR (xs : List (List Int × Int)) : List Int := xs.flatMap (·.1)
theorem tiesR_snoc (xs : List (List Int × Int)) (x : List Int × Int) : tiesR (xs ++ [x]) = tiesR xs ++ x.1 := by
  unfold tiesR
  rw [List.flatMap_append]
  simp
theorem loadR_out {xs : List (List Int × Int)} {e : Int} (h : e ∉ tiesR xs) : loadR xs e = 0 := by
  induction xs with
  | nil => rfl
  | cons x xs ih =>
    have h1 : e ∉ x.1 := fun z => h (by unfold tiesR; rw [List.flatMap_cons]; exact List.mem_append_left _ z)
    have h2 : e ∉ tiesR xs := fun z => h (by unfold tiesR; rw [List.flatMap_cons]; exact List.mem_append_right _ z)
    have := ih h2
    unfold loadR at this ⊢
    rw [List.map_cons, List.sum_cons, this, if_neg h1]
    rfl
theorem fitR_iff {lim : List Int} {xs : List (List Int × Int)} : fitR lim xs = (tiesR xs).all fun e => decide ((lim.length : Int) ≤ e) || decide (loadR xs e ≤ lim.getD e.toNat 0) := by
  unfold fitR tiesR
  rw [List.all_flatMap]
theorem givR_snoc (m : Nat) (given : List Int) (xs : List (List Int × Int)) (x : List Int × Int) : givR m given (xs ++ [x]) = (givR m given xs && x.1.all fun e => decide (e ∈ given) || decide ((m : Int) ≤ e)) := by
  unfold givR
  rw [List.all_append]
  simp
theorem all_false_of {α : Type} {xs : List α} {p : α → Bool} {x : α} (h : x ∈ xs) (hp : p x = false) : xs.all p = false := by
  rw [Bool.eq_false_iff]
  intro z
  rw [List.all_eq_true] at z
  rw [z x h] at hp
  cases hp
/-- the rows told so far -/
structure ToldR (H : Hp) (n : Int) (ts : List Tie) (lim given : List Int) (rows : List V) (i : Nat) (xs : List (List Int × Int)) : Prop where
  fold : (rows.take i).foldl (stepR H n ts) (some []) = some xs
  giv : givR lim.length given xs = true
  ties : ∀ e ∈ tiesR xs, 0 ≤ e ∧ e < (ts.length : Int)
theorem ringsS_off {H : Hp} {n : Int} {ts : List Tie} {lim given : List Int} {rows : List V} {i : Nat} {xs : List (List Int × Int)} {r : V} (T : ToldR H n ts lim given rows i xs) (e : rows[i]? = some r) (h : rowOk H n ts lim.length given r = false) : ringsS H n ts lim given rows = none := by
  unfold ringsS
  have ef := fold_at (f := stepR H n ts) (b := some []) e
  rw [T.fold] at ef
  have ef : (rows.take (i + 1)).foldl (stepR H n ts) (some []) = match rowR H n ts r with | none => none | some x => some (xs ++ [x]) := ef
  unfold rowOk at h
  cases hr : rowR H n ts r with
  | none =>
    rw [hr] at ef
    rw [fold_off (stepR_none H n ts) ef]
  | some x =>
    rw [hr] at ef h
    have ef : (rows.take (i + 1)).foldl (stepR H n ts) (some []) = some (xs ++ [x]) := ef
    have h : (x.1.all fun e => decide (e ∈ given) || decide ((lim.length : Int) ≤ e)) = false := h
    have e2 : rows = rows.take (i + 1) ++ rows.drop (i + 1) := (List.take_append_drop ..).symm
    rw [e2, List.foldl_append, ef]
    have more : ∀ (rs : List V) (ys : List (List Int × Int)), givR lim.length given ys = false → (match rs.foldl (stepR H n ts) (some ys) with | none => none | some xs => if givR lim.length given xs && fitR lim xs then some ((totR xs + 1) / 2) else none) = (none : Option Int) := fun rs => by
      induction rs with
      | nil =>
        intro ys hy
        show (if givR lim.length given ys && fitR lim ys then some ((totR ys + 1) / 2) else none) = none
        rw [hy]
        rfl
      | cons r rs ih =>
        intro ys hy
        rw [List.foldl_cons]
        have es : stepR H n ts (some ys) r = match rowR H n ts r with | none => none | some x => some (ys ++ [x]) := rfl
        rw [es]
        cases rowR H n ts r with
        | none => rw [fold_none (stepR_none H n ts)]
        | some z => exact ih (ys ++ [z]) (by rw [givR_snoc, hy]; rfl)
    exact more _ _ (by rw [givR_snoc, h, Bool.and_false])
theorem rowOk_is {H : Hp} {n : Int} {ts : List Tie} {m : Nat} {given : List Int} {v : V} (h : rowOk H n ts m given v = true) : ∃ (va ra ta : Addr) (p : V) (en : List Int) (t : Int), v = .ref va ∧ H va = some (.tup [.ref ra, .int t]) ∧ H ra = some (.tup [p, .ref ta]) ∧ H ta = some (.tup (en.map V.int)) ∧ rowR H n ts v = some (en, t) ∧ 1 ≤ t ∧ (∀ e ∈ en, 0 ≤ e ∧ e < (ts.length : Int)) ∧ en.Nodup ∧ en.length ≤ ts.length ∧ (en.all fun e => decide (e ∈ given) || decide ((m : Int) ≤ e)) = true := by
  unfold rowOk at h
  cases e : rowR H n ts v with
  | none => rw [e] at h; cases h
  | some x =>
    rw [e] at h
    cases ep : parts H v with
    | none => unfold rowR at e; rw [ep] at e; cases e
    | some xs =>
      obtain ⟨va, rfl, hva⟩ := parts_at ep
      cases h2 : lenIs H (.ref va) 2 with
      | false => rw [rowR_not h2] at e; cases e
      | true =>
        obtain ⟨ys, hy, ly⟩ := len_is h2
        rw [ep] at hy
        obtain rfl := Option.some.inj hy
        obtain ⟨a, b, rfl⟩ := two_of ly
        rw [rowR_two ep] at e
        cases hw : (wfrom 1 b && oddB H n ts a) with
        | false => rw [hw] at e; cases e
        | true =>
          rw [hw, if_pos rfl] at e
          obtain rfl := Option.some.inj e
          rw [Bool.and_eq_true] at hw
          obtain ⟨ra, ta, p, en, rfl, hra, hta, et, hen, nen, len⟩ := odd_ties hw.2
          cases b with
          | int t =>
            have h1 : 1 ≤ t := of_decide_eq_true hw.1
            exact ⟨va, ra, ta, p, en, t, rfl, hva, hra, hta, by rw [et]; rfl, h1, hen, nen, len, by rw [et] at h; exact h⟩
          | _ => exact absurd hw.1 Bool.false_ne_true
def spRingsShow (Ps : List Addr) : Sp := fun vs H Q _ => ∃ (wv : V) (lv gv rv : Addr) (n : Int) (ts : List Tie) (lim given : List Int) (rows : List V) (d : Nat), vs = [wv, .ref lv, .ref gv, .ref rv] ∧ KnotAt H wv lv gv n ts lim given ∧ H rv = some (.tup rows) ∧ (∀ r ∈ rows, PapV d H r) ∧ rows.length ≤ 1000 ∧ Tabs Ps H ∧ ∀ H', Kt Ps H H' → Q (optV (ringsS H n ts lim given rows)) H'
section
variable {P : Program} {w : World} {K : PySem.W.Frag} {mg : Str → Option Value} {base : Heap}
set_option maxHeartbeats 4000000 in
theorem ok_rings_show {f c Pt : Addr} {fd : FuncData} {Ps : List Addr} (F : FunC K "rings_show" "rings_show" s_rings_show f fd c) (TB : GxR.TabB base mg c Pt) (hPt : Pt ∈ Ps) (M : Free mg) (m_any : mg "any" = none) (D_is_ring_row : Df P w K mg base 9 "is_ring_row" ["web", "limits", "given", "thing"] (spRingRow Ps)) : FnOk P w K mg base CX0 11 f fd ["web", "limits", "given", "rows"] (spRingsShow Ps) := by
  obtain ⟨f_is_ring_row, fd_is_ring_row, G_is_ring_row, g_is_ring_row, k_is_ring_row, b_is_ring_row⟩ := D_is_ring_row
  refine F.ok sc_rings_show (fun vs H Q E h => ?_) (fun A outer s H vs Q E hr h => ?_)
  · obtain ⟨wv, lv, gv, rv, n, ts, lim, given, rows, d, rfl, _⟩ := h
    rfl
  · obtain ⟨wv, lv, gv, rv, n, ts, lim, given, rows, d, rfl, hK, hrv, hP, lr, hT, q⟩ := h
    have hu := room1 hr
    refine ⟨_, (pss_cons (ps_set (i := 4) sc_rings_show.nd rfl (.inl rfl) pe_int)
      (pss_cons (ps_set (i := 5) sc_rings_show.nd rfl (.inr rfl) pe_dnewK)
      (pss_cons (ps_for PassesOwn.never rfl (pi_tup (pv 3)) (pg_name (i := 6) sc_rings_show.nd rfl (.inl rfl))
        (pss_cons (ps_if (pt_not (pt_val (pe_call G_is_ring_row (hr.mono (by decide)) (by rfl) g_is_ring_row k_is_ring_row b_is_ring_row .nil pass0 (pa_cons (pv 0) (pa_cons (pv 1) (pa_cons (pv 2) (pa_cons (pv 6) pa_nil)))))))
          (pss_one (ps_ret pe_non))
          pss_nil)
        (pss_cons (ps_asg (pv 6) (pg_tup rfl (pgs_cons (pg_name (i := 7) sc_rings_show.nd rfl (.inl rfl)) (pgs_cons (pg_name (i := 8) sc_rings_show.nd rfl (.inl rfl)) pgs_nil))))
        (pss_cons (ps_aug (i := 4) sc_rings_show.nd rfl (.inl rfl) (pv 8) ip_add)
        (pss_one (ps_for PassesOwn.never rfl (pi_tup (pe_ix ix_tup (pv 7) pe_int (fun _ _ => rfl))) (pg_name (i := 9) sc_rings_show.nd rfl (.inl rfl))
          (pss_one (ps_dput hu (pv 5) (pv 9) (pe_op op_add (pe_dget2 hu (pv 5) (pv 9) pe_int ⟨rfl, rfl, rfl, rfl⟩) (pv 8)) rfl))))))))
      (pss_cons (ps_if (pt_val (pe_lock (pe_any (k := 9) (own := [("tie", 9)]) (g := gName 9) hr TB rfl rfl sc_rings_show.nd (by rfl) m_any (pi_keys (pv 5)) (blkOk_by (N := N_rings_show) (sc := defScope s_rings_show) (own := [("tie", 9)]) (by decide +kernel)) ⟨rfl, by decide +kernel, by decide +kernel⟩ (show (".0" : Str) ∉ N_rings_show by decide +kernel) (fun _ _ _ _ _ _ _ => (pg_name (i := 9) sc_rings_show.nd rfl (.inl rfl))) (fun _ _ _ _ _ _ _ hr' => (pe_and (pe_cmpR op_lt (pv 9) (pe_callB (r := rLen49 K) call_len_seq (by rfl) M.len PySem.boot_len (pa_cons (pv 1) pa_nil)) (nomark _)) (pe_one (pe_cmpR op_gt (pe_dget (room1 hr') (pv 5) (pv 9) (fun _ _ => rfl)) (pe_ix (r := rIxL K) ix_list (pv 1) (pv 9) (fun _ _ => rfl)) (nomark _))))))))
        (pss_one (ps_ret pe_non))
        pss_nil)
      (pss_one (ps_ret (pe_op op_fdiv (pe_op op_add (pv 4) pe_int) pe_int))))))), ?_⟩
    have fts := hK.ok.few
    refine fun D nD => ?_
    have sD := same_new (o := .dK []) nD
    have kD := Kt.same hT sD
    have hD1 : (upd H D (.dK [])) D = some (.dK (kvI [] (loadR []))) := upd_same
    generalize upd H D (.dK []) = H1 at sD kD hD1
    have hrv1 := kD.tup hT hrv
    refine ⟨.ref rv, rfl, rv, rfl, ⟨_, SqT.of hrv1⟩, ?_⟩
    refine for_tup (xs := rows) (fun i σ' H' => ∃ (y6 y7 y8 y9 : Option V) (xs : List (List Int × Int)) (ks : List Int), σ' = [some wv, some (.ref lv), some (.ref gv), some (.ref rv), some (.int (totR xs)), some (.ref D), y6, y7, y8, y9] ∧ ToldR H n ts lim given rows i xs ∧ H' D = some (.dK (kvI ks (loadR xs))) ∧ ks.Nodup ∧ (∀ e, e ∈ ks ↔ e ∈ tiesR xs) ∧ Kt Ps H H') ⟨none, none, none, none, [], [], rfl, ⟨rfl, rfl, fun e he => (by cases he)⟩, hD1, List.nodup_nil, fun e => Iff.rfl, kD⟩ (fun i σ' H' _ h => by
      obtain ⟨_, _, _, _, _, _, _, _, _, _, _, k⟩ := h
      exact SqT.of (k.tup hT hrv)) ?_ ?_
    · clear hD1 kD sD hrv1
      rintro i r σ' H2 er ⟨y6, y7, y8, y9, xs, ks, rfl, T, hD, nk, mk, k2⟩
      have T2 : Tabs Ps H2 := k2.tab
      have pr := hP r (List.mem_of_getElem? er)
      refine ⟨wv, rfl, .ref lv, rfl, .ref gv, rfl, r, rfl, wv, lv, gv, r, n, ts, lim, given, d, rfl, hK.kt k2 hT, pr.stay (.kt k2 hT), T2, fun H3 k3 => ⟨_, rfl, ?_⟩⟩
      have eo : rowOk H2 n ts lim.length given r = rowOk H n ts lim.length given r := by
        unfold rowOk
        rw [rowR_stay pr (.kt k2 hT)]
      rw [eo]
      have k03 := k2.trans k3
      have hD3 := k3.dct T2 hD
      cases ho : rowOk H n ts lim.length given r with
      | false =>
        have := q _ k03
        rw [ringsS_off T er ho] at this
        exact this
      | true =>
      obtain ⟨va, ra, ta, p, en, t, rfl, hva, hra, hta, eR, t1, hen, nen, len, hg⟩ := rowOk_is ho
      have hva3 := k03.tup hT hva
      have hra3 := k03.tup hT hra
      have hta3 := k03.tup hT hta
      refine ⟨.ref va, rfl, va, _, rfl, SqT.of hva3, rfl, _, _, rfl, _, _, rfl, rfl, ?_⟩
      refine ⟨.int (totR xs), rfl, .int t, rfl, totR xs, t, rfl, rfl, ?_⟩
      refine ⟨.ref ra, rfl, ra, _, 1, .ref ta, rfl, rfl, SqT.of hra3, rfl, ta, rfl, ⟨_, SqT.of hta3⟩, ?_⟩
      have T' : ToldR H n ts lim given rows (i + 1) (xs ++ [(en, t)]) := by
        refine ⟨?_, by rw [givR_snoc, T.giv]; exact hg, fun e he => ?_⟩
        · rw [fold_at er, T.fold]
          show (match rowR H n ts (.ref va) with | none => none | some x => some (xs ++ [x])) = _
          rw [eR]
        · rw [tiesR_snoc] at he
          rcases List.mem_append.mp he with z | z
          · exact T.ties e z
          · exact hen e z
      refine for_tup (xs := en.map V.int) (fun j σ' H' => ∃ (y9 : Option V) (ks : List Int), σ' = [some wv, some (.ref lv), some (.ref gv), some (.ref rv), some (.int (totR xs + t)), some (.ref D), some (.ref va), some (.ref ra), some (.int t), y9] ∧ H' D = some (.dK (kvI ks (loadR (xs ++ [(en.take j, t)])))) ∧ ks.Nodup ∧ (∀ e, e ∈ ks ↔ e ∈ tiesR xs ∨ e ∈ en.take j) ∧ Kt Ps H H') ⟨_, ks, rfl, ?_, nk, fun e => by rw [mk e]; simp, k03⟩ (fun j σ' H' _ h => by
        obtain ⟨_, _, _, _, _, _, k⟩ := h
        exact SqT.of (k.tup hT hta)) ?_ ?_
      · have : (loadR (xs ++ [(en.take 0, t)])) = loadR xs := by
          funext e
          rw [loadR_snoc]
          simp
        rw [this]
        exact hD3
      · clear hD3 hva3 hra3 hta3 hD
        rintro j x σ' H4 ex ⟨y9, ks', rfl, hD, nk', mk', k4⟩
        rw [List.getElem?_map] at ex
        obtain ⟨e, ee, rfl⟩ := Option.map_eq_some_iff.mp ex
        have jl := (List.getElem?_eq_some_iff.mp ee).1
        have hemem := List.mem_of_getElem? ee
        have lk : ks'.length ≤ ts.length := pigeon49 ks' nk' fun z hz => by
          rcases (mk' z).mp hz with h | h
          · exact T.ties z h
          · exact hen z (List.mem_of_mem_take h)
        have enj : e ∉ en.take j := fun z => by
          obtain ⟨i', hi'⟩ := List.getElem?_of_mem z
          have il := (List.getElem?_eq_some_iff.mp hi').1
          rw [List.length_take] at il
          rw [List.getElem?_take_of_lt (by omega)] at hi'
          have h1 := (List.getElem?_eq_some_iff.mp hi')
          have h2 := (List.getElem?_eq_some_iff.mp ee)
          exact List.pairwise_iff_getElem.mp nen i' j h1.1 jl (by omega) (h1.2.trans h2.2.symm)
        have g1 : DGet H4 D (.int e) (valV (kvI ks' (loadR (xs ++ [(en.take j, t)]))) (Sum.inl e)) := DGet.k (k := Sum.inl e) hD
        refine ⟨.ref D, rfl, D, rfl, .inl ⟨_, .inl hD⟩, .int e, rfl, _, g1, ?_⟩
        rw [kvI_get fun z => by
          rw [loadR_snoc, loadR_out fun y => z ((mk' e).mpr (.inl y)), if_neg fun y => z ((mk' e).mpr (.inr y))]
          rfl]
        refine ⟨.int t, rfl, _, _, rfl, rfl, .ref D, rfl, .int e, rfl, D, _, rfl, DPut.k (k := Sum.inl e) hD (by unfold kvI; rw [List.length_map]; exact small1000 (by omega)), ?_⟩
        have et : en.take (j + 1) = en.take j ++ [e] := by rw [List.take_add_one, ee]; rfl
        have hg' : ∀ k, loadR (xs ++ [(en.take (j + 1), t)]) k = if k = e then loadR (xs ++ [(en.take (j + 1), t)]) e else loadR (xs ++ [(en.take j, t)]) k := fun k => by
          by_cases hk : k = e
          · rw [if_pos hk, hk]
          · rw [if_neg hk, loadR_snoc, loadR_snoc, et]
            simp [hk]
        have ev : loadR (xs ++ [(en.take j, t)]) e + t = loadR (xs ++ [(en.take (j + 1), t)]) e := by
          rw [loadR_snoc, loadR_snoc, et, if_neg enj, if_pos (by simp)]
          omega
        refine ⟨_, addI ks' e, rfl, ?_, addI_nd nk', fun z => ?_, k4.mutN hT nD⟩
        · rw [upd_same]
          show some (HO.dK (putK (kvI ks' (loadR (xs ++ [(en.take j, t)]))) (Sum.inl e) (.int (loadR (xs ++ [(en.take j, t)]) e + t)))) = _
          rw [ev, kvI_put hg']
        · rw [addI_mem, mk', et, List.mem_append, List.mem_singleton, or_assoc]
      · rintro σ' H4 ⟨y9, ks', rfl, hD, nk', mk', k4⟩
        rw [List.length_map, List.take_length] at hD
        refine ⟨_, _, _, _, xs ++ [(en, t)], ks', by rw [totR_snoc], T', hD, nk', fun e => ?_, k4⟩
        rw [mk', List.length_map, List.take_length, tiesR_snoc, List.mem_append]
    · rintro σ' H2 ⟨y6, y7, y8, y9, xs, ks, rfl, T, hD, nk, mk, k2⟩
      have T2 : Tabs Ps H2 := k2.tab
      have ef := T.fold
      rw [List.take_length] at ef
      have eS : ringsS H n ts lim given rows = if fitR lim xs then some ((totR xs + 1) / 2) else none := by
        unfold ringsS
        rw [ef]
        show (if givR lim.length given xs && fitR lim xs then _ else _) = _
        rw [T.giv]
        rfl
      rw [eS, fitR_iff] at q
      have hlim2 := k2.lst hT hK.lm
      have DP : ∀ P ∈ Ps, P ≠ D := fun P hP z => by
        obtain ⟨ps, e, _⟩ := T2 P hP
        rw [z, hD] at e
        cases e
      have lD : lv ≠ D := fun z => by rw [z, hD] at hlim2; cases hlim2
      refine ⟨D, _, hD, trivial, fun od => ?_⟩
      refine ⟨.ref D, rfl, D, od, rfl, .inl ⟨_, upd_same, ?_⟩⟩
      have hDf : (upd H2 D (.frz od (.dK (kvI ks (loadR xs))))) D = some (.frz od (.dK (kvI ks (loadR xs)))) := upd_same
      have hlimf : (upd H2 D (.frz od (.dK (kvI ks (loadR xs))))) lv = some (.lst (lim.map V.int)) := by rw [upd_ne lD]; exact hlim2
      have Tf : Tabs Ps (upd H2 D (.frz od (.dK (kvI ks (loadR xs))))) := fun P hP => by
        obtain ⟨ps, e, t⟩ := T2 P hP
        exact ⟨ps, by rw [upd_ne (DP P hP)]; exact e, t⟩
      have fin : ∀ H', Kt Ps (upd H2 D (.frz od (.dK (kvI ks (loadR xs))))) H' → Kt Ps H (upd H' D (.dK (kvI ks (loadR xs)))) := fun H' k => by
        refine ⟨fun P hP => ?_, fun b o hb e => ?_⟩
        · obtain ⟨ps, e, t⟩ := k.tab P hP
          exact ⟨ps, by rw [upd_ne (DP P hP)]; exact e, t⟩
        · have bD : b ≠ D := ne_of_none e nD
          rw [upd_ne bD]
          exact k.keep b o hb (by rw [upd_ne bD]; exact k2.keep b o hb e)
      have nDP : D ∉ Ps := fun z => DP D z rfl
      generalize upd H2 D (.frz od (.dK (kvI ks (loadR xs)))) = Hf at hDf hlimf Tf fin
      have lk : (kvI ks (loadR xs)).length = ks.length := by unfold kvI; rw [List.length_map]
      have okE : ∀ e ∈ ks, 0 ≤ e ∧ e < (ts.length : Int) := fun e he => T.ties e ((mk e).mp he)
      refine ⟨Tf Pt hPt, fun i m H' => i + m = ks.length ∧ Kt Ps Hf H' ∧ (ks.take i).all (fun e => decide ((lim.length : Int) ≤ e) || decide (loadR xs e ≤ lim.getD e.toNat 0)) = true, fun H3 hH3 => ⟨ks.length, by omega, Kt.tabbed Tf hPt hH3, rfl⟩, fun i m H' hw => ?_⟩
      obtain ⟨em, kt, hal⟩ := hw
      have hD' := kt.keep D _ nDP hDf
      have hlim' := kt.lst Tf hlimf
      by_cases hi : i < ks.length
      · refine .inr ⟨⟨hD', by rw [lk]; exact hi⟩, fun H3 => Kt Ps Hf H3 ∧ (ks.take (i + 1)).all (fun e => decide ((lim.length : Int) ≤ e) || decide (loadR xs e ≤ lim.getD e.toNat 0)) = true, fun H3 n3 => ⟨m - 1, by omega, by omega, n3.1, n3.2⟩, fun x H3 hy => ?_⟩
        obtain ⟨rfl, k, v, ek, rfl⟩ := hy
        obtain ⟨e, ee, ev⟩ : ∃ e, ks[i]? = some e ∧ ((Sum.inl e : Key), V.int (loadR xs e)) = (k, v) := by
          unfold kvI at ek
          rw [List.getElem?_map] at ek
          exact Option.map_eq_some_iff.mp ek
        cases ev
        have hmem := List.mem_of_getElem? ee
        have b0 := okE e hmem
        refine ⟨rfl, .int e, rfl, .ref lv, rfl, lv, _, rfl, .inl (SqL.of hlim'), _, _, rfl, rfl, _, rfl, ?_⟩
        rw [List.length_map]
        cases hc : decide (e < (lim.length : Int)) with
        | false =>
          have hc := of_decide_eq_false hc
          exact ⟨_, rfl, kt, (take_all ee hal).trans (by rw [decide_eq_true (show (lim.length : Int) ≤ e by omega)]; rfl)⟩
        | true =>
          have hc := of_decide_eq_true hc
          obtain ⟨w, ew⟩ : ∃ w, lim[e.toNat]? = some w := ⟨_, List.getElem?_eq_getElem (by omega)⟩
          have gw : lim.getD e.toNat 0 = w := by rw [List.getD_eq_getElem?_getD, ew]; rfl
          refine ⟨.ref D, rfl, .int e, rfl, D, .int (loadR xs e), rfl, .inl ⟨_, Sum.inl e, .inr ⟨od, hD'⟩, rfl, (by rw [kvI_val, if_pos hmem])⟩, .ref lv, rfl, .int e, rfl, lv, _, e, .int w, rfl, rfl, SqL.of hlim', atI_of b0.1 (by rw [List.getElem?_map, ew]; rfl), _, _, rfl, rfl, _, rfl, ?_⟩
          cases hl : decide (loadR xs e > w) with
          | false =>
            have hl := of_decide_eq_false hl
            exact ⟨kt, (take_all ee hal).trans (by rw [gw, decide_eq_true (show loadR xs e ≤ w by omega), Bool.or_true])⟩
          | true =>
            have hl := of_decide_eq_true hl
            have ef : ((tiesR xs).all fun e => decide ((lim.length : Int) ≤ e) || decide (loadR xs e ≤ lim.getD e.toNat 0)) = false := all_false_of ((mk e).mp hmem) (by rw [gw, decide_eq_false (show ¬ (lim.length : Int) ≤ e by omega), decide_eq_false (show ¬ loadR xs e ≤ w by omega)]; rfl)
            rw [ef] at q
            exact ⟨hD', _, rfl, q _ (fin _ kt)⟩
      · refine .inl ⟨⟨hD', by rw [lk]; omega⟩, hD', _, rfl, ?_⟩
        rw [List.take_of_length_le (by omega)] at hal
        have ef : ((tiesR xs).all fun e => decide ((lim.length : Int) ≤ e) || decide (loadR xs e ≤ lim.getD e.toNat 0)) = true := by
          rw [List.all_eq_true] at hal ⊢
          exact fun e he => hal e ((mk e).mpr he)
        rw [ef] at q
        exact ⟨.int (totR xs), rfl, _, 1, rfl, rfl, _, 2, rfl, rfl, ⟨by decide, by decide⟩, q _ (fin _ kt)⟩
end
/-! ### d.update(e) -/
def rUpdate : V → List V → Hp → VK → Prop := fun x vs H Q => ∃ (a b : Addr) (kvs more : List (Key × V)), x = .ref a ∧ vs = [.ref b] ∧ H a = some (.dK kvs) ∧ H b = some (.dK more) ∧ a ≠ b ∧ kvs.length + more.length ≤ sizeLine ∧ Q .non (upd H a (.dK (mergeK kvs more)))
theorem mt_update {X : Cx} : MtR X "dict.update" rUpdate := by
  intro pins s σ H x vs v us Q I rx rv h
  obtain ⟨a, b, kvs, more, ex, ev, e1, e2, ne, hl, q⟩ := h
  subst ex
  subst ev
  obtain rfl : v = Value.ref a := rx
  obtain ⟨u, eu, r1⟩ := vals1 rv
  subst eu
  obtain rfl : u = Value.ref b := r1
  obtain ⟨z1, hd1, vs1, rel1, dd1⟩ := dk_of I.hok e1
  obtain ⟨z2, hd2, vs2, rel2, dd2⟩ := dk_of I.hok e2
  refine call_meetsIn PySem.F.slot_dict_update dd1.typeIs PySem.F.entry_dict_update (PySem.F.args_dict_update_2 _ _) (meets_dict_update (mixKind X.prog X.w) a b ne hd2) ⟨vs1, vs2, dd1, dd2, by rw [← rel1.length, ← rel2.length]; exact hl, fun h' dd' _ hs => ⟨.non, _, ?_, rfl, q⟩⟩
  have he : ∃ q, h'.get? a = some q := let ⟨q, _, _, hq, _⟩ := dd'; ⟨q, hq⟩
  exact d_write (t' := s.toks) I (by rw [e1]; exact True.intro) hs he (dk_new (Nat.le_trans (length_mergeK more kvs) hl) hd1 (rel2.merge rel1) dd')
/-! ### a dict made by a comprehension, put into a name -/
section
variable {X : Cx}
theorem ps_setDc {i : Nat} {y : Str} {py : Pos} {kx vx tg iter : Expr} {ifs : List Expr} {scope : Scope} {own : List (Str × Nat)} {pos spos : Pos} {wi : TI} {g : TG} {tt : TT} {tk tv : TE} (hc : X.calm = true) (hN : X.N.Nodup) (hy : X.N[i]? = some y) (hyl : X.env.scope.names.lookup y = some .local)
    (hsw : swapsWith (.DictComp kx vx [⟨tg, iter, ifs, 0⟩] scope pos) (some (.Name y py)) spos.line X.env = pure true) (hi : PI X tg iter wi) (ok : BlkOk X.N X.env.scope scope own)
    (hg : ∀ (s : Shared) (H : Hp) (C : Addr) (cl : List (Str × Addr)) (fp : List Addr), PG (X.blk s H scope (compEnvC scope cl C X.env) fp) tg g) (ht : ∀ (s : Shared) (H : Hp) (C : Addr) (cl : List (Str × Addr)) (fp : List Addr), PTs (X.blk s H scope (compEnvC scope cl C X.env) fp) ifs tt)
    (hk : ∀ (s : Shared) (H : Hp) (C : Addr) (cl : List (Str × Addr)) (fp : List Addr), PE (X.blk s H scope (compEnvC scope cl C X.env) fp) kx tk)
    (he : ∀ (s : Shared) (H : Hp) (C : Addr) (cl : List (Str × Addr)) (fp : List Addr), PE (X.blk s H scope (compEnvC scope cl C X.env) fp) vx tv) (hs : ∀ x, foldedSetIterable iter X.env x = pure x := by intro _; rfl) :
    PS X (.Assign [.Name y py] (.DictComp kx vx [⟨tg, iter, ifs, 0⟩] scope pos) spos) (tAsg (tDc wi g tt tk tv (own.map (·.2))) (gName i)) := by
  refine ⟨fun pins s σ H D I h => ?_⟩
  rw [exec_Assign_Name_used _ _ _ _ hsw]
  refine wpAny_bind (wpAny_standAt (wpAny_bind ?_))
  show wpAny _ X.A (do let _ ← comprehension (.DictComp kx vx [⟨tg, iter, ifs, 0⟩] scope pos) scope X.env (firstIterPos [⟨tg, iter, ifs, 0⟩] pos) newDict false (eval iter X.env) (some (assign (.Name y py) X.env))) _ _ s
  have h : tDc wi g tt tk tv (own.map (·.2)) σ H (fun x H1 => gName i x σ H1 D.nx) := h
  refine wpAny_bind (thn (dc_core (Qf := fun _ s' => SP X pins D .next s') hc hN I hi ok hg ht hk he hs h fun L C s' m H' I' q hn f => ?_) fun _ s' hq => wpAny_pure (wpAny_pure hq))
  show wpAny _ _ (assign (.Name y py) X.env (.ref L)) _ _ _
  refine wpAny_assign_Name (store_ok2 (v := V.ref L) I' hN hy (.inl hyl) rfl (fun s2 I2 ⟨a, sb, ha⟩ => ?_) (.inr hyl))
  obtain ⟨f0, f1, f2, f3, f4, f5⟩ := f
  have haC : C ≠ a := by
    rcases ha with z | z
    · rw [z]; exact f1
    · exact fun e => f4 y a z e.symm
  refine ⟨m, hn.sameBut sb haC, fun h3 sb3 => ?_⟩
  exact ⟨_, H', I2.turned (t' := s2.toks) (fun b o hb e => (sb3.2 b hb).trans e) f0 f1 f3 f4 f5, q⟩
theorem sw_trueD {kx vx : Expr} {gs : List Comprehension} {scope : Scope} {pos py : Pos} {y : Str} {l : Nat} {env : Env} (hk : env.scope.kind = .function) (hy : env.scope.names.lookup y = some .local) (hl : (py.line == pos.line) = true)
    (ha : (scope.names.any fun (n, k) => n == y && (k == .local || k == .cell)) = false) : swapsWith (.DictComp kx vx gs scope pos) (some (.Name y py)) l env = pure true := by
  have ky : env.kindOf y = some .local := hy
  have hb : env.blockKind = .function := by unfold Env.blockKind; rw [hk]; rfl
  unfold swapsWith
  simp only [hb, ky, ha, Expr.pos, hl]
  rfl
end
/-! ### papers: splits, cases, knots -/
theorem chain_ints49 : ∀ {ns : List Int}, chainB (ns.map V.int) = true → ns.Pairwise (· < ·)
  | [], _ => .nil
  | [_], _ => List.pairwise_singleton ..
  | a :: b :: ns, h => by
    have h : (decide (a < b) && chainB ((b :: ns).map V.int)) = true := h
    rw [Bool.and_eq_true, decide_eq_true_iff] at h
    have t := chain_ints49 h.2
    refine .cons (fun x hx => ?_) t
    rcases List.mem_cons.mp hx with z | z
    · rw [z]
      exact h.1
    · have := (List.pairwise_cons.mp t).1 x z
      have := h.1
      omega
theorem rise_is {H : Hp} {m : Nat} {t : V} (h : riseB H m t = true) : ∃ (ta : Addr) (es : List Int), t = .ref ta ∧ H ta = some (.tup (es.map V.int)) ∧ (∀ e ∈ es, 0 ≤ e ∧ e < (m : Int)) ∧ es.Pairwise (· < ·) ∧ ((parts H t).getD []).map toI = es := by
  unfold riseB at h
  cases e : parts H t with
  | none => rw [e] at h; cases h
  | some xs =>
    rw [e] at h
    have h : (xs.all (wbelow m) && chainB xs) = true := h
    rw [Bool.and_eq_true] at h
    obtain ⟨ta, rfl, hta⟩ := parts_at e
    obtain ⟨es, rfl, hes⟩ := ints_of h.1
    exact ⟨ta, es, rfl, hta, hes, chain_ints49 h.2, toI_map es⟩
def splitOk (H : Hp) (m : Nat) (given taken : List Int) (r : V) : Bool := match rowT H m r with
  | some x => x.1.all fun e => decide (e ∈ given) && !decide (e ∈ taken)
  | none => false
theorem rowT_not {H : Hp} {m : Nat} {v : V} (h : lenIs H v 2 = false) : rowT H m v = none := by
  unfold rowT
  cases e : parts H v with
  | none => rfl
  | some xs =>
    have := two_not h e
    match xs, this with
    | [], _ => rfl
    | [_], _ => rfl
    | [a, b], t => exact (t a b rfl).elim
    | _ :: _ :: _ :: _, _ => rfl
theorem rowT_two {H : Hp} {m : Nat} {v a b : V} (h : parts H v = some [a, b]) : rowT H m v = if riseB H m a = true then some (((parts H a).getD []).map toI, b) else none := by
  unfold rowT
  rw [h]
theorem rowT_pap1 {d : Nat} {H : Hp} {m : Nat} {r : V} {es : List Int} {p : V} (h : PapV (d + 1) H r) (e : rowT H m r = some (es, p)) : PapV d H p := by
  obtain ⟨t, h1, _, _⟩ := rowT_is e
  exact (h.2 _ h1).1 p (by simp)
theorem kvG_put {ks : List Int} {x : Int} (h : x ∉ ks) : putK (kvG ks) (Sum.inl x) (.bl true) = kvG (ks ++ [x]) := by
  unfold putK
  rw [valV_any, kvG_val, if_neg h, if_neg (by simp)]
  unfold kvG
  rw [List.map_append]
  rfl
theorem kvG_merge : ∀ {es ks : List Int}, es.Nodup → (∀ e ∈ es, e ∉ ks) → mergeK (kvG ks) (kvG es) = kvG (ks ++ es)
  | [], ks, _, _ => by rw [List.append_nil]; rfl
  | e :: es, ks, nd, no => by
    have nd' := List.nodup_cons.mp nd
    show mergeK (putK (kvG ks) (Sum.inl e) (.bl true)) (kvG es) = _
    rw [kvG_put (no e List.mem_cons_self), kvG_merge nd'.2 fun x hx z => ?_, List.append_assoc]
    · rfl
    · rcases List.mem_append.mp z with z | z
      · exact no x (List.mem_cons_of_mem _ hx) z
      · rw [List.mem_singleton.mp z] at hx
        exact nd'.1 hx
def spSplitRow (Ps : List Addr) : Sp := fun vs H Q _ => ∃ (lv gv tv : Addr) (v : V) (lim given taken : List Int) (d : Nat), vs = [.ref lv, .ref gv, .ref tv, v] ∧ H lv = some (.lst (lim.map V.int)) ∧ H gv = some (.dK (kvG given)) ∧ H tv = some (.dK (kvG taken)) ∧ PapV d H v ∧ Tabs Ps H ∧ ∀ H', Kt Ps H H' → Q (.bl (splitOk H lim.length given taken v)) H'
section
variable {P : Program} {w : World} {K : PySem.W.Frag} {mg : Str → Option Value} {base : Heap}
set_option maxHeartbeats 2000000 in
theorem ok_is_split_row {f c Pt : Addr} {fd : FuncData} {Ps : List Addr} (F : FunC K "is_split_row" "is_split_row" s_is_split_row f fd c) (TB : GxR.TabB base mg c Pt) (hPt : Pt ∈ Ps) (M : Free mg) (m_all : mg "all" = none) (D_are_rising_below : Df P w K mg base 4 "are_rising_below" ["limit", "thing"] (spRising Ps)) (D_is_tuple_of : Df P w K mg base 1 "is_tuple_of" ["length", "thing"] spTupleOf) : FnOk P w K mg base CX0 6 f fd ["limits", "given", "taken", "thing"] (spSplitRow Ps) := by
  obtain ⟨f_are_rising_below, fd_are_rising_below, G_are_rising_below, g_are_rising_below, k_are_rising_below, b_are_rising_below⟩ := D_are_rising_below
  obtain ⟨f_is_tuple_of, fd_is_tuple_of, G_is_tuple_of, g_is_tuple_of, k_is_tuple_of, b_is_tuple_of⟩ := D_is_tuple_of
  refine F.ok sc_is_split_row (fun vs H Q E h => ?_) (fun A outer s H vs Q E hr h => ?_)
  · obtain ⟨lv, gv, tv, v, lim, given, taken, d, rfl, _⟩ := h
    rfl
  · obtain ⟨lv, gv, tv, v, lim, given, taken, d, rfl, hlim, hgiv, htk, hP, hT, q⟩ := h
    have hu := room1 hr
    refine ⟨_, (pss_cons (ps_if (PW.pt (pw_or (pt_not (pt_val (pe_call G_is_tuple_of (hr.mono (by decide)) (by rfl) g_is_tuple_of k_is_tuple_of b_is_tuple_of .nil pass0 (pa_cons pe_int (pa_cons (pv 3) pa_nil))))) (pw_or1 (pt_not (pt_val (pe_call G_are_rising_below (hr.mono (by decide)) (by rfl) g_are_rising_below k_are_rising_below b_are_rising_below .nil pass0 (pa_cons (pe_callB call_len_seq (by rfl) M.len PySem.boot_len (pa_cons (pv 0) pa_nil)) (pa_cons (pe_ix ix_tup (pv 3) pe_int (fun _ _ => rfl)) pa_nil))))))))
        (pss_one (ps_ret pe_bl))
        pss_nil)
      (pss_one (ps_ret (pe_all (k := 4) (own := [("tie", 4)]) (g := gName 4) hr TB rfl rfl sc_is_split_row.nd (by rfl) m_all (pi_tup (pe_ix ix_tup (pv 3) pe_int (fun _ _ => rfl))) (blkOk_by (N := N_is_split_row) (sc := defScope s_is_split_row) (own := [("tie", 4)]) (by decide +kernel)) ⟨rfl, by decide +kernel, by decide +kernel⟩ (show (".0" : Str) ∉ N_is_split_row by decide +kernel) (fun _ _ _ _ _ _ _ => (pg_name (i := 4) sc_is_split_row.nd rfl (.inl rfl))) (fun _ _ _ _ _ _ _ hr' => (pe_and (pe_cmp (pc_din (room1 hr') (pv 4) (pv 1))) (pe_one (pe_cmp (pc_dnotin (room1 hr') (pv 4) (pv 2)))))))))), ?_⟩
    have kv := hP.kn
    refine ⟨v, rfl, 2, v, rfl, kv, _, rfl, ?_⟩
    cases h2 : lenIs H v 2 with
    | false =>
      have e : splitOk H lim.length given taken v = false := by
        unfold splitOk
        rw [rowT_not h2]
      rw [e] at q
      exact q _ (Kt.refl hT)
    | true =>
    obtain ⟨xs, hx, lx⟩ := len_is h2
    obtain ⟨a, b, rfl⟩ := two_of lx
    obtain ⟨va, rfl, hva⟩ := parts_at hx
    have pa := (hP.up.2 _ hx).1 a (by simp)
    have er := rowT_two (m := lim.length) hx
    refine ⟨.ref lv, rfl, lv, _, rfl, .inl (SqL.of hlim), .ref va, rfl, va, _, 0, a, rfl, rfl, SqT.of hva, rfl, lim.length, a, ?_, pa.row, hT, fun H1 k1 => ⟨_, rfl, ?_⟩⟩
    · rw [List.length_map]
      rfl
    cases ho : riseB H lim.length a with
    | false =>
      have e : splitOk H lim.length given taken (.ref va) = false := by
        unfold splitOk
        rw [er, if_neg (by rw [ho]; exact Bool.false_ne_true)]
      rw [e] at q
      exact q _ k1
    | true =>
    obtain ⟨ta, es, rfl, hta, hes, hpw, et⟩ := rise_is ho
    have T1 : Tabs Ps H1 := k1.tab
    have eR : splitOk H lim.length given taken (.ref va) = es.all fun e => decide (e ∈ given) && !decide (e ∈ taken) := by
      unfold splitOk
      rw [er, if_pos ho, et]
    rw [eR] at q
    refine ⟨.ref va, rfl, va, _, 0, .ref ta, rfl, rfl, SqT.of (k1.tup hT hva), rfl, ta, rfl, ⟨_, SqT.of (k1.tup hT hta)⟩, ?_⟩
    refine ⟨T1 Pt hPt, fun j m H' => j + m = es.length ∧ Kt Ps H H' ∧ (es.take j).all (fun e => decide (e ∈ given) && !decide (e ∈ taken)) = true, fun H2 hH2 => ⟨es.length, by omega, k1.trans (Kt.tabbed T1 hPt hH2), rfl⟩, fun j m H' hw => ?_⟩
    obtain ⟨em, kt, hal⟩ := hw
    have hta' := kt.tup hT hta
    by_cases hj : j < es.length
    · refine .inr ⟨⟨_, _, SqT.of hta', List.getElem?_eq_getElem (by rw [List.length_map]; exact hj)⟩, fun H3 => Kt Ps H H3 ∧ (es.take (j + 1)).all (fun e => decide (e ∈ given) && !decide (e ∈ taken)) = true, fun H3 n3 => ⟨m - 1, by omega, by omega, n3.1, n3.2⟩, fun x H3 hy => ?_⟩
      obtain ⟨rfl, fy⟩ := hy
      have ex := fy _ (SqT.of hta')
      rw [List.getElem?_map, List.getElem?_eq_getElem hj] at ex
      cases ex
      have ee := List.getElem?_eq_getElem hj
      refine ⟨rfl, .int es[j], rfl, .ref gv, rfl, gv, _, rfl, DGet.k (k := Sum.inl es[j]) (kt.dct hT hgiv), ?_⟩
      rw [kvG_some]
      cases hb : decide (es[j] ∈ given) with
      | false =>
        have no : (es.all fun e => decide (e ∈ given) && !decide (e ∈ taken)) = false := all_not ee (by rw [hb]; rfl)
        rw [no] at q
        exact ⟨_, rfl, _, rfl, q _ kt⟩
      | true =>
        refine ⟨_, rfl, .int es[j], rfl, .ref tv, rfl, tv, _, rfl, DGet.k (k := Sum.inl es[j]) (kt.dct hT htk), _, rfl, ?_⟩
        rw [kvG_some]
        cases hc : decide (es[j] ∈ taken) with
        | false => exact ⟨kt, (take_all ee hal).trans (by rw [hb, hc]; rfl)⟩
        | true =>
          have no : (es.all fun e => decide (e ∈ given) && !decide (e ∈ taken)) = false := all_not ee (by rw [hc, Bool.not_true, Bool.and_false])
          rw [no] at q
          exact q _ kt
    · refine .inl ⟨⟨_, SqT.of hta', by rw [List.length_map]; omega⟩, ?_⟩
      rw [List.take_of_length_le (by omega)] at hal
      rw [hal] at q
      exact q _ kt
end
def spKnot (Ps : List Addr) : Nat → Sp
  | 0 => fun _ _ _ _ => False
  | d + 1 => fun vs H Q _ => ∃ (wv : V) (lv gv : Addr) (v : V) (n : Int) (ts : List Tie) (lim given : List Int), vs = [wv, .ref lv, .ref gv, v] ∧ KnotAt H wv lv gv n ts lim given ∧ ts.length + d ≤ 120 ∧ PapV d H v ∧ Tabs Ps H ∧ ∀ H', Kt Ps H H' → Q (optV (shownS (d + 1) H n ts lim given v)) H'
def spSplitShows (Ps : List Addr) (d : Nat) : Sp := fun vs H Q _ => ∃ (wv : V) (lv gv rv : Addr) (n : Int) (ts : List Tie) (lim given : List Int) (rows : List V), vs = [wv, .ref lv, .ref gv, .ref rv] ∧ KnotAt H wv lv gv n ts lim given ∧ ts.length + d ≤ 120 ∧ H rv = some (.tup rows) ∧ (∀ r ∈ rows, PapV d H r) ∧ Tabs Ps H ∧ ∀ H', Kt Ps H H' → Q (optV (splitS H lim.length given (fun es p => shownS d H n ts lim es p) rows)) H'
theorem stepT_some {H : Hp} {m : Nat} {given : List Int} {S : List Int → V → Option Int} {tk : List Int} {tot : Int} {r : V} : stepT H m given S (some (tk, tot)) r = match rowT H m r with | none => none | some (es, p) => if es.all (fun e => decide (e ∈ given) && !decide (e ∈ tk)) then (match S es p with | none => none | some k => some (tk ++ es, tot + k)) else none := rfl
theorem splitS_off {H : Hp} {m : Nat} {given : List Int} {S : List Int → V → Option Int} {rows : List V} {i : Nat} {x : Option (List Int × Int)} {r : V} (hf : (rows.take i).foldl (stepT H m given S) (some ([], 0)) = x) (e : rows[i]? = some r) (h : stepT H m given S x r = none) : splitS H m given S rows = none := by
  unfold splitS
  have ef := fold_at (f := stepT H m given S) (b := some ([], 0)) e
  rw [hf, h] at ef
  rw [fold_off (stepT_none H m given S) ef]
  rfl
theorem splitOk_is {H : Hp} {m : Nat} {given taken : List Int} {r : V} (h : splitOk H m given taken r = true) : ∃ (va ta : Addr) (p : V) (es : List Int), r = .ref va ∧ H va = some (.tup [.ref ta, p]) ∧ H ta = some (.tup (es.map V.int)) ∧ rowT H m r = some (es, p) ∧ (∀ e ∈ es, 0 ≤ e ∧ e < (m : Int)) ∧ es.Nodup ∧ (es.all fun e => decide (e ∈ given) && !decide (e ∈ taken)) = true := by
  unfold splitOk at h
  cases e : rowT H m r with
  | none => rw [e] at h; cases h
  | some x =>
    obtain ⟨es, p⟩ := x
    rw [e] at h
    obtain ⟨t, h1, h2, h3⟩ := rowT_is e
    obtain ⟨va, rfl, hva⟩ := parts_at h1
    obtain ⟨ta, es', rfl, hta, hes, hpw, et⟩ := rise_is h2
    rw [et] at h3
    subst h3
    exact ⟨va, ta, p, es, rfl, hva, hta, rfl, hes, hpw.imp fun {a b} z => by omega, h⟩
section
variable {P : Program} {w : World} {K : PySem.W.Frag} {mg : Str → Option Value} {base : Heap}
set_option maxHeartbeats 4000000 in
theorem ok_split_shows {f : Addr} {fd : FuncData} {Ps : List Addr} (d : Nat) (F : Fun K "split_shows" "split_shows" s_split_shows f fd) (D_is_split_row : Df P w K mg base 6 "is_split_row" ["limits", "given", "taken", "thing"] (spSplitRow Ps)) (D_knot_shows : Df P w K mg base (20 + 2 * d) "knot_shows" ["web", "limits", "given", "thing"] (spKnot Ps d)) : FnOk P w K mg base CX0 (20 + 2 * d + 1) f fd ["web", "limits", "given", "rows"] (spSplitShows Ps d) := by
  obtain ⟨f_is_split_row, fd_is_split_row, G_is_split_row, g_is_split_row, k_is_split_row, b_is_split_row⟩ := D_is_split_row
  obtain ⟨f_knot_shows, fd_knot_shows, G_knot_shows, g_knot_shows, k_knot_shows, b_knot_shows⟩ := D_knot_shows
  refine F.ok sc_split_shows (fun vs H Q E h => ?_) (fun cdv A outer s H vs Q E hr h => ?_)
  · obtain ⟨wv, lv, gv, rv, n, ts, lim, given, rows, rfl, _⟩ := h
    rfl
  · obtain ⟨wv, lv, gv, rv, n, ts, lim, given, rows, rfl, hK, l120, hrv, hP, hT, q⟩ := h
    refine ⟨_, (pss_cons (ps_set (i := 4) sc_split_shows.nd rfl (.inl rfl) pe_int)
      (pss_cons (ps_set (i := 5) sc_split_shows.nd rfl (.inl rfl) pe_dnewK)
      (pss_cons (ps_for PassesOwn.never rfl (pi_tup (pv 3)) (pg_name (i := 6) sc_split_shows.nd rfl (.inl rfl))
        (pss_cons (ps_if (pt_not (pt_val (pe_call G_is_split_row (hr.mono (by omega)) (by rfl) g_is_split_row k_is_split_row b_is_split_row .nil pass0 (pa_cons (pv 1) (pa_cons (pv 2) (pa_cons (pv 5) (pa_cons (pv 6) pa_nil)))))))
          (pss_one (ps_ret pe_non))
          pss_nil)
        (pss_cons (ps_setDc (i := 7) (own := [("tie", 8)]) (g := gName 8) (tt := tYes) rfl sc_split_shows.nd rfl rfl (sw_trueD rfl rfl rfl (by decide +kernel)) (pi_tup (pe_ix ix_tup (pv 6) pe_int (fun _ _ => rfl))) (blkOk_by (N := N_split_shows) (sc := defScope s_split_shows) (own := [("tie", 8)]) (by decide +kernel)) (fun _ _ _ _ _ => (pg_name (i := 8) sc_split_shows.nd rfl (.inl rfl))) (fun _ _ _ _ _ => pts_nil) (fun _ _ _ _ _ => (pv 8)) (fun _ _ _ _ _ => pe_bl))
        (pss_cons (ps_expr (pe_bm PySem.F.plainAttrs_dict PySem.F.slot_dict_update PySem.F.type_dict_update mt_update (pv 5) (pa_cons (pv 7) pa_nil)))
        (pss_cons (ps_set (i := 9) sc_split_shows.nd rfl (.inl rfl) (pe_call G_knot_shows (hr.mono (by omega)) (by rfl) g_knot_shows k_knot_shows b_knot_shows .nil pass0 (pa_cons (pv 0) (pa_cons (pv 1) (pa_cons (pv 7) (pa_cons (pe_ix ix_tup (pv 6) pe_int (fun _ _ => rfl)) pa_nil))))))
        (pss_cons (ps_if (pt_cmpR op_isN (pv 9) pe_non (nomark _))
          (pss_one (ps_ret pe_non))
          pss_nil)
        (pss_one (ps_aug (i := 4) sc_split_shows.nd rfl (.inl rfl) (pv 9) ip_add))))))))
      (pss_one (ps_ret (pv 4)))))), ?_⟩
    have fts := hK.ok.few
    refine fun D nD => ?_
    have sD := same_new (o := .dK []) nD
    have kD := Kt.same hT sD
    have hD1 : (upd H D (.dK [])) D = some (.dK (kvG [])) := upd_same
    generalize upd H D (.dK []) = H1 at sD kD hD1
    have hrv1 := kD.tup hT hrv
    refine ⟨.ref rv, rfl, rv, rfl, ⟨_, SqT.of hrv1⟩, ?_⟩
    refine for_tup (xs := rows) (fun i σ' H' => ∃ (y6 y7 y8 y9 : Option V) (tk : List Int) (tot : Int), σ' = [some wv, some (.ref lv), some (.ref gv), some (.ref rv), some (.int tot), some (.ref D), y6, y7, y8, y9] ∧ (rows.take i).foldl (stepT H lim.length given fun es p => shownS d H n ts lim es p) (some ([], 0)) = some (tk, tot) ∧ H' D = some (.dK (kvG tk)) ∧ tk.Nodup ∧ (∀ e ∈ tk, e ∈ given) ∧ Kt Ps H H') ⟨none, none, none, none, [], 0, rfl, rfl, hD1, List.nodup_nil, fun e he => (by cases he), kD⟩ (fun i σ' H' _ h => by
      obtain ⟨_, _, _, _, _, _, _, _, _, _, _, k⟩ := h
      exact SqT.of (k.tup hT hrv)) ?_ ?_
    · clear hD1 kD sD hrv1
      rintro i r σ' H2 er ⟨y6, y7, y8, y9, tk, tot, rfl, ef, hD, nk, mk, k2⟩
      have T2 : Tabs Ps H2 := k2.tab
      have pr := hP r (List.mem_of_getElem? er)
      refine ⟨.ref lv, rfl, .ref gv, rfl, .ref D, rfl, r, rfl, lv, gv, D, r, lim, given, tk, d, rfl, k2.lst hT hK.lm, k2.dct hT hK.giv, hD, pr.stay (.kt k2 hT), T2, fun H3 k3 => ⟨_, rfl, ?_⟩⟩
      have eo : splitOk H2 lim.length given tk r = splitOk H lim.length given tk r := by
        unfold splitOk
        rw [rowT_stay pr (.kt k2 hT)]
      rw [eo]
      have k03 := k2.trans k3
      have hD3 := k3.dct T2 hD
      cases ho : splitOk H lim.length given tk r with
      | false =>
        have := q _ k03
        rw [splitS_off ef er (by
          rw [stepT_some]
          unfold splitOk at ho
          cases e : rowT H lim.length r with
          | none => rfl
          | some x =>
            rw [e] at ho
            show (if x.1.all (fun e => decide (e ∈ given) && !decide (e ∈ tk)) then _ else none) = none
            rw [show (x.1.all fun e => decide (e ∈ given) && !decide (e ∈ tk)) = false from ho]
            rfl)] at this
        exact this
      | true =>
      obtain ⟨va, ta, p, es, rfl, hva, hta, eT, hes, nes, hg⟩ := splitOk_is ho
      have hva3 := k03.tup hT hva
      have hta3 := k03.tup hT hta
      have les : es.length ≤ lim.length := pigeon49 es nes hes
      have few := hK.few
      -- the row's own ties
      refine ⟨.ref va, rfl, va, _, 0, .ref ta, rfl, rfl, SqT.of hva3, rfl, ta, rfl, ⟨_, SqT.of hta3⟩, fun O nO => ?_⟩
      have ndisj : ∀ e ∈ es, e ∈ given ∧ e ∉ tk := fun e he => by
        have := List.all_eq_true.mp hg e he
        rw [Bool.and_eq_true, decide_eq_true_iff, Bool.not_eq_true', decide_eq_false_iff_not] at this
        exact this
      have OD : D ≠ O := ne_of_none hD3 nO
      have T3 : Tabs Ps H3 := k3.tab
      refine dc_tup (K := K) (xs := es.map V.int) (fun j H' => H' O = some (.dK (kvG (es.take j))) ∧ Same H3 H') ⟨upd_same, same_new nO⟩ (fun j H' _ h => SqT.of (h.2 _ _ hta3)) ?_ ?_
      · rintro j x H4 ex ⟨hO, s4⟩
        rw [List.getElem?_map] at ex
        obtain ⟨e, ee, rfl⟩ := Option.map_eq_some_iff.mp ex
        have jl := (List.getElem?_eq_some_iff.mp ee).1
        have enj : e ∉ es.take j := fun z => by
          obtain ⟨i', hi'⟩ := List.getElem?_of_mem z
          have il := (List.getElem?_eq_some_iff.mp hi').1
          rw [List.length_take] at il
          rw [List.getElem?_take_of_lt (by omega)] at hi'
          have h1 := (List.getElem?_eq_some_iff.mp hi')
          have h2 := (List.getElem?_eq_some_iff.mp ee)
          exact List.pairwise_iff_getElem.mp nes i' j h1.1 jl (by omega) (h1.2.trans h2.2.symm)
        refine ⟨rfl, .int e, rfl, kvG (es.take j), Sum.inl e, rfl, hO, ?_, ?_, Same.mut s4 nO⟩
        · unfold kvG
          rw [List.length_map, List.length_take]
          exact small1000 (by omega)
        · rw [upd_same, kvG_put enj, List.take_add_one, ee]
          rfl
      rintro H4 ⟨hO, s4⟩
      rw [List.length_map, List.take_length] at hO
      have k04 := k03.trans (Kt.same T3 s4)
      have hD4 := s4 _ _ hD3
      have ltk : tk.length ≤ lim.length := pigeon49 tk nk fun e he => hK.inn e (mk e he)
      refine ⟨.ref D, rfl, .inr (.inr (.inl ⟨rfl, .inl ⟨_, hD4⟩⟩)), .ref O, rfl, D, O, kvG tk, kvG es, rfl, rfl, hD4, hO, OD, ?_, ?_⟩
      · unfold kvG
        rw [List.length_map, List.length_map]
        exact Nat.le_of_lt (small1000 (by omega))
      rw [kvG_merge nes fun e he => (ndisj e he).2]
      have hD5 : (upd H4 D (.dK (kvG (tk ++ es)))) D = some (.dK (kvG (tk ++ es))) := upd_same
      have hO5 : (upd H4 D (.dK (kvG (tk ++ es)))) O = some (.dK (kvG es)) := by rw [upd_ne OD.symm]; exact hO
      have k05 : Kt Ps H (upd H4 D (.dK (kvG (tk ++ es)))) := k04.mutN hT nD
      generalize upd H4 D (.dK (kvG (tk ++ es))) = H5 at hD5 hO5 k05
      have T5 : Tabs Ps H5 := k05.tab
      clear hD4 hO k04 s4 hD3 k3 k03 hD k2 hva3 hta3 nO eo
      cases d with
      | zero =>
        have e0 : parts H (.ref va) = none := (show Kn H (.ref va) ∧ parts H (.ref va) = none from pr).2
        rw [parts_of' hva] at e0
        cases e0
      | succ d =>
      have pp : PapV d H p := rowT_pap1 pr eT
      refine ⟨wv, rfl, .ref lv, rfl, .ref O, rfl, .ref va, rfl, va, _, 1, p, rfl, rfl, SqT.of (k05.tup hT hva), rfl, wv, lv, O, p, n, ts, lim, es, rfl, ⟨hK.web.tk (k05.tk hT), hK.ok, k05.lst hT hK.lm, few, hO5, hes, nes⟩, by omega, pp.stay (.kt k05 hT), T5, fun H6 k6 => ?_⟩
      have k06 := k05.trans k6
      have e6 : shownS (d + 1) H5 n ts lim es p = shownS (d + 1) H n ts lim es p := shown_stay pp (.kt k05 hT) ..
      rw [e6]
      have es0 : stepT H lim.length given (fun es p => shownS (d + 1) H n ts lim es p) (some (tk, tot)) (.ref va) = match shownS (d + 1) H n ts lim es p with | none => none | some k => some (tk ++ es, tot + k) := by
        rw [stepT_some, eT]
        show (if es.all (fun e => decide (e ∈ given) && !decide (e ∈ tk)) then _ else none) = _
        rw [hg]
        rfl
      cases eS : shownS (d + 1) H n ts lim es p with
      | none =>
        have := q _ k06
        rw [splitS_off ef er (by rw [es0, eS])] at this
        refine ⟨.non, rfl, rfl, _, rfl, ?_⟩
        exact this
      | some k =>
        refine ⟨.int k, rfl, rfl, _, rfl, ?_⟩
        refine ⟨.int tot, rfl, .int k, rfl, tot, k, rfl, rfl, ?_⟩
        exact ⟨_, _, _, _, tk ++ es, tot + k, rfl, by rw [fold_at er, ef, es0, eS], k6.dct T5 hD5, List.nodup_append.mpr ⟨nk, nes, fun a ha b hb e => (ndisj b hb).2 (e ▸ ha)⟩, fun e he => (List.mem_append.mp he).elim (mk e) fun z => (ndisj e z).1, k06⟩
    · rintro σ' H2 ⟨y6, y7, y8, y9, tk, tot, rfl, ef, hD, nk, mk, k2⟩
      rw [List.take_length] at ef
      have eS : splitS H lim.length given (fun es p => shownS d H n ts lim es p) rows = some tot := by
        unfold splitS
        rw [ef]
        rfl
      rw [eS] at q
      exact ⟨.int tot, rfl, q _ k2⟩
end
/-! ### papers: cases, knots, what a paper shows -/
def unlB (n : Int) (x y : V) : Bool := wbelow n x && (wbelow n y && !decide (x = y))
def spUnlikePl : Sp := fun vs H Q _ => ∃ (n : Int) (x y : V), vs = [.int n, x, y] ∧ Kn H x ∧ Kn H y ∧ Q (.bl (unlB n x y)) H
theorem wbelow_is {n : Int} {x : V} (h : wbelow n x = true) : ∃ i, x = .int i ∧ 0 ≤ i ∧ i < n := by
  cases x with
  | int i =>
    have h : (decide (0 ≤ i) && decide (i < n)) = true := h
    rw [Bool.and_eq_true, decide_eq_true_iff, decide_eq_true_iff] at h
    exact ⟨i, rfl, h⟩
  | _ => exact absurd (show false = true from h) Bool.false_ne_true
theorem decV (a b : Int) : decide (V.int a = V.int b) = decide (a = b) := by
  rw [decide_eq_decide]
  exact ⟨fun h => V.int.inj h, fun h => by rw [h]⟩
theorem caseS_eq {n : Int} {S : Tie → V → Option Int} {p q a b : V} : caseS n S p q a b = match p, q with
  | .int x, .int y => if unlB n (.int x) (.int y) then minO (S ⟨x, y, false⟩ a) (S ⟨x, y, true⟩ b) else none
  | _, _ => none := by
  unfold caseS unlB
  cases p <;> cases q <;> try rfl
  simp only [decV]
theorem caseS_off {n : Int} {S : Tie → V → Option Int} {p q a b : V} (h : unlB n p q = false) : caseS n S p q a b = none := by
  rw [caseS_eq]
  cases p <;> cases q <;> try rfl
  show (if unlB n _ _ = true then _ else none) = none
  rw [h]
  rfl
theorem caseS_on {n : Int} {S : Tie → V → Option Int} {x y : Int} {a b : V} (h : unlB n (.int x) (.int y) = true) : caseS n S (.int x) (.int y) a b = minO (S ⟨x, y, false⟩ a) (S ⟨x, y, true⟩ b) := by
  rw [caseS_eq]
  show (if unlB n _ _ = true then _ else none) = _
  rw [h]
  rfl
def spCaseShows (Ps : List Addr) (d : Nat) : Sp := fun vs H Q _ => ∃ (wv : V) (lv gv cv : Addr) (n : Int) (ts : List Tie) (lim given : List Int) (w p q a b : V) (d' : Nat), d = d' + 1 ∧ vs = [wv, .ref lv, .ref gv, .ref cv] ∧ KnotAt H wv lv gv n ts lim given ∧ ts.length + d ≤ 120 ∧ H cv = some (.tup [w, p, q, a, b]) ∧ Kn H p ∧ Kn H q ∧ PapV d' H a ∧ PapV d' H b ∧ Tabs Ps H ∧ ∀ H', Kt Ps H H' → Q (optV (caseS n (fun t x => shownS d H n (ts ++ [t]) lim given x) p q a b)) H'
section
variable {P : Program} {w : World} {K : PySem.W.Frag} {mg : Str → Option Value} {base : Heap}
set_option maxHeartbeats 2000000 in
theorem ok_are_unlike_places {f : Addr} {fd : FuncData} (F : Fun K "are_unlike_places" "are_unlike_places" s_are_unlike_places f fd) (D_is_whole_below : Df P w K mg base 2 "is_whole_below" ["limit", "thing"] spBelow) : FnOk P w K mg base CX0 3 f fd ["many", "one", "other"] spUnlikePl := by
  obtain ⟨f_is_whole_below, fd_is_whole_below, G_is_whole_below, g_is_whole_below, k_is_whole_below, b_is_whole_below⟩ := D_is_whole_below
  refine F.ok sc_are_unlike_places (fun vs H Q E h => ?_) (fun cdv A outer s H vs Q E hr h => ?_)
  · obtain ⟨n, x, y, rfl, _⟩ := h
    rfl
  · obtain ⟨n, x, y, rfl, kx, ky, q⟩ := h
    refine ⟨_, (pss_one (ps_ret (pe_and (pe_call G_is_whole_below (hr.mono (by decide)) (by rfl) g_is_whole_below k_is_whole_below b_is_whole_below .nil pass0 (pa_cons (pv 0) (pa_cons (pv 1) pa_nil))) (pe_and (pe_call G_is_whole_below (hr.mono (by decide)) (by rfl) g_is_whole_below k_is_whole_below b_is_whole_below .nil pass0 (pa_cons (pv 0) (pa_cons (pv 2) pa_nil))) (pe_one (pe_cmpR op_ne (pv 1) (pv 2) (nomark _))))))), ?_⟩
    refine ⟨.int n, rfl, x, rfl, n, x, rfl, kx, _, rfl, ?_⟩
    unfold unlB at q
    cases h1 : wbelow n x with
    | false => rw [h1] at q; exact q
    | true =>
    rw [h1, Bool.true_and] at q
    refine ⟨.int n, rfl, y, rfl, n, y, rfl, ky, _, rfl, ?_⟩
    cases h2 : wbelow n y with
    | false => rw [h2] at q; exact q
    | true =>
    rw [h2, Bool.true_and] at q
    obtain ⟨i, rfl, _⟩ := wbelow_is h1
    obtain ⟨j, rfl, _⟩ := wbelow_is h2
    exact ⟨.int i, rfl, .int j, rfl, rfl, q⟩
set_option maxHeartbeats 4000000 in
theorem ok_case_shows {f : Addr} {fd : FuncData} {Ps : List Addr} (d : Nat) (F : Fun K "case_shows" "case_shows" s_case_shows f fd) (m_min : mg "min" = none) (D_are_unlike_places : Df P w K mg base 3 "are_unlike_places" ["many", "one", "other"] spUnlikePl) (D_knot_shows : Df P w K mg base (20 + 2 * d) "knot_shows" ["web", "limits", "given", "thing"] (spKnot Ps d)) : FnOk P w K mg base CX0 (20 + 2 * d + 1) f fd ["web", "limits", "given", "thing"] (spCaseShows Ps d) := by
  obtain ⟨f_are_unlike_places, fd_are_unlike_places, G_are_unlike_places, g_are_unlike_places, k_are_unlike_places, b_are_unlike_places⟩ := D_are_unlike_places
  obtain ⟨f_knot_shows, fd_knot_shows, G_knot_shows, g_knot_shows, k_knot_shows, b_knot_shows⟩ := D_knot_shows
  refine F.ok sc_case_shows (fun vs H Q E h => ?_) (fun cdv A outer s H vs Q E hr h => ?_)
  · obtain ⟨wv, lv, gv, cv, n, ts, lim, given, w0, p, q0, a, b, d1, ed, rfl, _⟩ := h
    rfl
  · obtain ⟨wv, lv, gv, cv, n, ts, lim, given, w0, p, q0, a, b, d1, ed, rfl, hK, l120, hcv, kp, kq, pa, pb, hT, q⟩ := h
    refine ⟨_, (pss_cons (ps_asg (pv 3) (pg_tup rfl (pgs_cons (pg_name (i := 4) sc_case_shows.nd rfl (.inl rfl)) (pgs_cons (pg_name (i := 5) sc_case_shows.nd rfl (.inl rfl)) (pgs_cons (pg_name (i := 6) sc_case_shows.nd rfl (.inl rfl)) (pgs_cons (pg_name (i := 7) sc_case_shows.nd rfl (.inl rfl)) (pgs_cons (pg_name (i := 8) sc_case_shows.nd rfl (.inl rfl)) pgs_nil)))))))
      (pss_cons (ps_if (pt_not (pt_val (pe_call G_are_unlike_places (hr.mono (by omega)) (by rfl) g_are_unlike_places k_are_unlike_places b_are_unlike_places .nil pass0 (pa_cons (pe_ix ix_tup (pv 0) pe_int (fun _ _ => rfl)) (pa_cons (pv 5) (pa_cons (pv 6) pa_nil))))))
        (pss_one (ps_ret pe_non))
        pss_nil)
      (pss_cons (ps_set (i := 9) sc_case_shows.nd rfl (.inl rfl) (pe_lst pa_nil))
      (pss_cons (ps_for PassesOwn.never rfl (pi_tup (pe_tup (pa_cons (pe_tup (pa_cons pe_str (pa_cons (pv 7) pa_nil))) (pa_cons (pe_tup (pa_cons pe_str (pa_cons (pv 8) pa_nil))) pa_nil)))) (pg_tup rfl (pgs_cons (pg_name (i := 10) sc_case_shows.nd rfl (.inl rfl)) (pgs_cons (pg_name (i := 11) sc_case_shows.nd rfl (.inl rfl)) pgs_nil)))
        (pss_cons (ps_set (i := 12) sc_case_shows.nd rfl (.inl rfl) (pe_tup (pa_cons (pe_ix ix_tup (pv 0) pe_int (fun _ _ => rfl)) (pa_cons (pe_op op_catU (pe_ix ix_tup (pv 0) pe_int (fun _ _ => rfl)) (pe_tup (pa_cons (pe_tup (pa_cons (pv 5) (pa_cons (pv 6) (pa_cons (pv 10) pa_nil)))) pa_nil))) pa_nil))))
        (pss_one (ps_expr (pe_bm PySem.F.plainAttrs_list PySem.F.slot_list_append PySem.F.type_list_append mt_append (pv 9) (pa_cons (pe_call G_knot_shows (hr.mono (by omega)) (by rfl) g_knot_shows k_knot_shows b_knot_shows .nil pass0 (pa_cons (pv 12) (pa_cons (pv 1) (pa_cons (pv 2) (pa_cons (pv 11) pa_nil))))) pa_nil))))))
      (pss_one (ps_ret (pe_ifExp (pt_cmpR op_in_seq pe_non (pv 9) rfl) pe_non (pe_callB (cr_min rfl) (by rfl) m_min (by decide +kernel) (pa_cons (pv 9) pa_nil))))))))), ?_⟩
    subst ed
    obtain ⟨wa, wb, us, rfl, hwa, hwb, hpw⟩ := id hK.web
    have fts := hK.ok.few
    refine ⟨.ref cv, rfl, cv, _, rfl, SqT.of hcv, rfl, _, _, rfl, _, _, rfl, _, _, rfl, _, _, rfl, _, _, rfl, rfl, ?_⟩
    refine ⟨.ref wa, rfl, wa, _, 0, .int n, rfl, rfl, SqT.of hwa, rfl, p, rfl, q0, rfl, n, p, q0, rfl, kp, kq, _, rfl, ?_⟩
    cases hu : unlB n p q0 with
    | false =>
      have := q _ (Kt.refl hT)
      rw [caseS_off hu] at this
      exact this
    | true =>
    have hu' := hu
    unfold unlB at hu'
    rw [Bool.and_eq_true, Bool.and_eq_true] at hu'
    obtain ⟨x, rfl, x0, x1⟩ := wbelow_is hu'.1
    obtain ⟨y, rfl, y0, y1⟩ := wbelow_is hu'.2.1
    have xy : x ≠ y := fun z => by
      have := hu'.2.2
      rw [z, decide_eq_true rfl] at this
      cases this
    rw [caseS_on hu] at q
    refine ⟨Nat.zero_le _, fun L nL => ?_⟩
    have sL := same_new (o := .lst []) nL
    have hL1 : (upd H L (.lst [])) L = some (.lst []) := upd_same
    have kL := Kt.same hT sL
    generalize upd H L (.lst []) = H1 at sL hL1 kL
    refine ⟨a, rfl, by show 2 ≤ sizeLine; decide, fun t1 n1 => ?_⟩
    have s1 := same_new (o := .tup [.str "friend", a]) n1
    have h1 := upd_same (H := H1) (a := t1) (o := .tup [.str "friend", a])
    generalize upd H1 t1 (.tup [.str "friend", a]) = H2 at s1 h1
    refine ⟨b, rfl, by show 2 ≤ sizeLine; decide, fun t2 n2 => ?_⟩
    have s2 := same_new (o := .tup [.str "foe", b]) n2
    have h2 := upd_same (H := H2) (a := t2) (o := .tup [.str "foe", b])
    have h12 := s2 _ _ h1
    generalize upd H2 t2 (.tup [.str "foe", b]) = H3 at s2 h2 h12
    refine ⟨by show 2 ≤ sizeLine; decide, fun t3 n3 => ?_⟩
    have s3 := same_new (o := .tup [.ref t1, .ref t2]) n3
    have h3 := upd_same (H := H3) (a := t3) (o := .tup [.ref t1, .ref t2])
    have h13 := s3 _ _ h12
    have h23 := s3 _ _ h2
    generalize upd H3 t3 (.tup [.ref t1, .ref t2]) = H4 at s3 h3 h13 h23
    have s14 := (s1.trans s2).trans s3
    have T1 : Tabs Ps H1 := kL.tab
    have k4 := kL.trans (Kt.same T1 s14)
    have hL4 := s14 _ _ hL1
    have T4 : Tabs Ps H4 := k4.tab
    clear n1 n2 n3 s1 s2 s3 h1 h2 h12 s14
    have each : ∀ (i : Nat) (v : V), [V.ref t1, V.ref t2][i]? = some v → ∃ (t : Addr) (kd : Bool) (u : V), v = .ref t ∧ H4 t = some (.tup [.str (kindS kd), u]) ∧ PapV d1 H u ∧ [optV (shownS (d1 + 1) H n (ts ++ [⟨x, y, false⟩]) lim given a), optV (shownS (d1 + 1) H n (ts ++ [⟨x, y, true⟩]) lim given b)][i]? = some (optV (shownS (d1 + 1) H n (ts ++ [⟨x, y, kd⟩]) lim given u)) := fun i v e => by
      match i, e with
      | 0, e => cases e; exact ⟨t1, false, a, rfl, h13, pa, rfl⟩
      | 1, e => cases e; exact ⟨t2, true, b, rfl, h23, pb, rfl⟩
      | i + 2, e => simp at e
    generalize eR : [optV (shownS (d1 + 1) H n (ts ++ [⟨x, y, false⟩]) lim given a), optV (shownS (d1 + 1) H n (ts ++ [⟨x, y, true⟩]) lim given b)] = R at each
    have lR : R.length = 2 := by rw [← eR]; rfl
    refine ⟨t3, rfl, ⟨_, SqT.of h3⟩, ?_⟩
    refine for_tup (xs := [V.ref t1, V.ref t2]) (fun i σ' H' => ∃ y10 y11 y12 : Option V, σ' = [some (.ref wa), some (.ref lv), some (.ref gv), some (.ref cv), some w0, some (.int x), some (.int y), some a, some b, some (.ref L), y10, y11, y12] ∧ H' L = some (.lst (R.take i)) ∧ Kt Ps H H' ∧ Tk H4 H') ⟨none, none, none, rfl, hL4, k4, fun _ _ e => e⟩ (fun i σ' H' _ h => by
      obtain ⟨_, _, _, _, _, _, tk⟩ := h
      exact SqT.of (tk _ _ h3)) ?_ ?_
    · rintro i v σ' H5 ev ⟨y10, y11, y12, rfl, hL5, k5, tk5⟩
      obtain ⟨t, kd, u, rfl, ht, pu, eu⟩ := each i v ev
      have il : i < 2 := (List.getElem?_eq_some_iff.mp ev).1
      have T5 : Tabs Ps H5 := k5.tab
      refine ⟨t, _, rfl, SqT.of (tk5 _ _ ht), rfl, _, _, rfl, _, _, rfl, rfl, ?_⟩
      refine ⟨.ref wa, rfl, wa, _, 0, .int n, rfl, rfl, SqT.of (k5.tup hT hwa), rfl, .ref wa, rfl, wa, _, 1, .ref wb, rfl, rfl, SqT.of (k5.tup hT hwa), rfl, .int x, rfl, .int y, rfl, .str (kindS kd), rfl, by show 3 ≤ sizeLine; decide, fun c1 nc1 => ⟨by show 1 ≤ sizeLine; decide, fun c2 nc2 => ?_⟩⟩
      have s6 := same_new (o := .tup [.int x, .int y, .str (kindS kd)]) nc1
      have hc1 := upd_same (H := H5) (a := c1) (o := .tup [.int x, .int y, .str (kindS kd)])
      generalize upd H5 c1 (.tup [.int x, .int y, .str (kindS kd)]) = H6 at s6 hc1 nc2
      have s7 := same_new (o := .tup [.ref c1]) nc2
      have hc2 := upd_same (H := H6) (a := c2) (o := .tup [.ref c1])
      have hc17 := s7 _ _ hc1
      generalize upd H6 c2 (.tup [.ref c1]) = H7 at s7 hc2 hc17
      have s57 := s6.trans s7
      have hwb7 := s57 _ _ (k5.tup hT hwb)
      have lus : us.length = ts.length := Paired.length hpw
      refine ⟨wb, c2, us, [.ref c1], rfl, rfl, hwb7, hc2, by rw [List.length_singleton]; omega, fun r H8 s8 hr8 => ⟨by show 2 ≤ sizeLine; decide, fun w2 nw2 => ?_⟩⟩
      have s9 := same_new (o := .tup [.int n, .ref r]) nw2
      have hw2 := upd_same (H := H8) (a := w2) (o := .tup [.int n, .ref r])
      have hr9 := s9 _ _ hr8
      generalize upd H8 w2 (.tup [.int n, .ref r]) = H9 at s9 hw2 hr9
      have s79 := s8.trans s9
      have s59 := s57.trans s79
      have k9 := k5.trans (Kt.same T5 s59)
      have T9 : Tabs Ps H9 := k9.tab
      have hL9 := s59 _ _ hL5
      have hc19 := s79 _ _ hc17
      have tk9 : Tk H4 H9 := tk5.trans (Same.tk s59)
      have ok' : WebOk n (ts ++ [⟨x, y, kd⟩]) := ⟨hK.ok.lo, hK.ok.hi, by rw [List.length_append]; show ts.length + 1 ≤ 120; omega, fun t ht => by
        rcases List.mem_append.mp ht with z | z
        · exact hK.ok.ok t z
        · rw [List.mem_singleton.mp z]
          exact ⟨x0, x1, y0, y1, xy⟩⟩
      refine ⟨.ref L, rfl, .inl ⟨rfl, _, SqL.of hL9⟩, .ref w2, rfl, .ref lv, rfl, .ref gv, rfl, u, rfl, .ref w2, lv, gv, u, n, ts ++ [⟨x, y, kd⟩], lim, given, rfl, ⟨⟨w2, r, _, rfl, hw2, hr9, Paired.snoc (ties_tk (k9.tk hT) hpw) ⟨c1, rfl, hc19⟩⟩, ok', k9.lst hT hK.lm, by have := hK.few; rw [List.length_append]; omega, k9.dct hT hK.giv, hK.inn, hK.nd⟩, by rw [List.length_append]; show ts.length + 1 + d1 ≤ 120; omega, pu.stay (.kt k9 hT), T9, fun H10 k10 => ?_⟩
      have e10 : shownS (d1 + 1) H9 n (ts ++ [⟨x, y, kd⟩]) lim given u = shownS (d1 + 1) H n (ts ++ [⟨x, y, kd⟩]) lim given u := shown_stay pu (.kt k9 hT) ..
      rw [e10]
      have hL10 := k10.lst T9 hL9
      have k010 := k9.trans k10
      refine ⟨L, R.take i, _, rfl, rfl, hL10, by rw [List.length_take]; exact small1000 (by omega), ?_⟩
      have tkL := tk_lst (ys := R.take i ++ [optV (shownS (d1 + 1) H n (ts ++ [⟨x, y, kd⟩]) lim given u)]) hL10
      refine ⟨_, _, _, rfl, ?_, k010.mutN hT nL, (tk9.trans (k10.tk T9)).trans tkL⟩
      rw [upd_same, List.take_add_one, eu]
      rfl
    · rintro σ' H5 ⟨y10, y11, y12, rfl, hL5, k5, tk5⟩
      have hL5 : H5 L = some (.lst R) := by rw [hL5]; congr 2; exact List.take_of_length_le (by rw [lR]; exact Nat.le_refl _)
      generalize shownS (d1 + 1) H n (ts ++ [⟨x, y, false⟩]) lim given a = r1 at eR q
      generalize shownS (d1 + 1) H n (ts ++ [⟨x, y, true⟩]) lim given b = r2 at eR q
      subst eR
      refine ⟨.ref L, rfl, L, _, rfl, .inl (SqL.of hL5), rfl, by cases r1 <;> cases r2 <;> rfl, _, rfl, ?_⟩
      cases r1 with
      | none => exact q _ k5
      | some m1 =>
        cases r2 with
        | none => exact q _ k5
        | some m2 =>
          refine ⟨.ref L, rfl, L, [m1, m2], rfl, SqL.of hL5, Nat.zero_lt_succ _, fun m hm hle => ?_⟩
          have e : m = min m1 m2 := by
            have a1 := hle m1 (by simp)
            have a2 := hle m2 (by simp)
            rcases List.mem_cons.mp hm with z | z
            · omega
            · have := List.mem_singleton.mp z
              omega
          rw [e]
          exact q _ k5
end
/-! ### papers: knots -/
theorem five_of {α : Type} : ∀ {xs : List α}, (xs.length : Int) = 5 → ∃ a b c d e, xs = [a, b, c, d, e]
  | [a, b, c, d, e], _ => ⟨a, b, c, d, e, rfl⟩
  | [], h => by cases h
  | [_], h => by cases h
  | [_, _], h => by cases h
  | [_, _, _], h => by cases h
  | [_, _, _, _], h => by cases h
  | _ :: _ :: _ :: _ :: _ :: _ :: xs, h => by
    simp only [List.length_cons] at h
    omega
theorem shown_not {d : Nat} {H : Hp} {n : Int} {ts : List Tie} {lim given : List Int} {v : V} (h2 : lenIs H v 2 = false) (h5 : lenIs H v 5 = false) : shownS d H n ts lim given v = none := by
  cases d with
  | zero => rfl
  | succ d =>
    unfold shownS
    unfold lenIs at h2 h5
    cases e : parts H v with
    | none => rfl
    | some xs =>
      rw [e] at h2 h5
      have h2 : (xs.length : Int) ≠ 2 := of_decide_eq_false h2
      have h5 : (xs.length : Int) ≠ 5 := of_decide_eq_false h5
      match xs, h2, h5 with
      | [], _, _ => rfl
      | [_], _, _ => rfl
      | [_, _], h2, _ => exact (h2 rfl).elim
      | [_, _, _], _, _ => rfl
      | [_, _, _, _], _, _ => rfl
      | [_, _, _, _, _], _, h5 => exact (h5 rfl).elim
      | _ :: _ :: _ :: _ :: _ :: _ :: _, _, _ => rfl
theorem shown_two {d : Nat} {H : Hp} {n : Int} {ts : List Tie} {lim given : List Int} {v w r : V} (h : parts H v = some [w, r]) : shownS (d + 1) H n ts lim given v = match parts H r with
  | none => none
  | some rows => if w = .str "rings" then ringsS H n ts lim given rows else if w = .str "split" then splitS H lim.length given (fun es p => shownS d H n ts lim es p) rows else none := by
  rw [shownS.eq_2, h] <;> rfl
theorem shown_five {d : Nat} {H : Hp} {n : Int} {ts : List Tie} {lim given : List Int} {v w p q a b : V} (h : parts H v = some [w, p, q, a, b]) : shownS (d + 1) H n ts lim given v = if w = .str "case" then caseS n (fun t x => shownS d H n (ts ++ [t]) lim given x) p q a b else none := by
  rw [shownS.eq_2, h]
section
variable {P : Program} {w : World} {K : PySem.W.Frag} {mg : Str → Option Value} {base : Heap}
set_option maxHeartbeats 4000000 in
theorem ok_knot_step {f : Addr} {fd : FuncData} {Ps : List Addr} (d : Nat) (F : Fun K "knot_shows" "knot_shows" s_knot_shows f fd) (M : Free mg) (D_is_tuple_of : Df P w K mg base 1 "is_tuple_of" ["length", "thing"] spTupleOf) (D_case_shows : Df P w K mg base (20 + 2 * d + 1) "case_shows" ["web", "limits", "given", "thing"] (spCaseShows Ps d)) (D_rings_show : Df P w K mg base 11 "rings_show" ["web", "limits", "given", "rows"] (spRingsShow Ps)) (D_split_shows : Df P w K mg base (20 + 2 * d + 1) "split_shows" ["web", "limits", "given", "rows"] (spSplitShows Ps d)) : FnOk P w K mg base CX0 (20 + 2 * d + 1 + 1) f fd ["web", "limits", "given", "thing"] (spKnot Ps (d + 1)) := by
  obtain ⟨f_is_tuple_of, fd_is_tuple_of, G_is_tuple_of, g_is_tuple_of, k_is_tuple_of, b_is_tuple_of⟩ := D_is_tuple_of
  obtain ⟨f_case_shows, fd_case_shows, G_case_shows, g_case_shows, k_case_shows, b_case_shows⟩ := D_case_shows
  obtain ⟨f_rings_show, fd_rings_show, G_rings_show, g_rings_show, k_rings_show, b_rings_show⟩ := D_rings_show
  obtain ⟨f_split_shows, fd_split_shows, G_split_shows, g_split_shows, k_split_shows, b_split_shows⟩ := D_split_shows
  refine F.ok sc_knot_shows (fun vs H Q E h => ?_) (fun cdv A outer s H vs Q E hr h => ?_)
  · obtain ⟨wv, lv, gv, v, n, ts, lim, given, rfl, _⟩ := h
    rfl
  · obtain ⟨wv, lv, gv, v, n, ts, lim, given, rfl, hK, l120, hP, hT, q⟩ := h
    refine ⟨_, (pss_cons (ps_if (PW.pt (pw_and (pt_val (pe_call G_is_tuple_of (hr.mono (by omega)) (by rfl) g_is_tuple_of k_is_tuple_of b_is_tuple_of .nil pass0 (pa_cons pe_int (pa_cons (pv 3) pa_nil)))) (pw_and1 (pt_cmpR (op_eqAS hr.units0) (pe_ix ix_tup (pv 3) pe_int (fun _ _ => rfl)) pe_str (nomark _)))))
        (pss_one (ps_ret (pe_call G_case_shows (hr.mono (by omega)) (by rfl) g_case_shows k_case_shows b_case_shows .nil pass0 (pa_cons (pv 0) (pa_cons (pv 1) (pa_cons (pv 2) (pa_cons (pv 3) pa_nil)))))))
        pss_nil)
      (pss_cons (ps_if (PW.pt (pw_or (pt_not (pt_val (pe_call G_is_tuple_of (hr.mono (by omega)) (by rfl) g_is_tuple_of k_is_tuple_of b_is_tuple_of .nil pass0 (pa_cons pe_int (pa_cons (pv 3) pa_nil))))) (pw_or1 (pt_not (pt_val (pe_callB call_isi (by rfl) M.isinstance (by decide +kernel) (pa_cons (pe_ix ix_tup (pv 3) pe_int (fun _ _ => rfl)) (pa_cons (pe_bltn (v := .ty "tuple") (by rfl) M.tuple (by decide +kernel) rfl) pa_nil))))))))
        (pss_one (ps_ret pe_non))
        pss_nil)
      (pss_cons (ps_asg (pv 3) (pg_tup rfl (pgs_cons (pg_name (i := 4) sc_knot_shows.nd rfl (.inl rfl)) (pgs_cons (pg_name (i := 5) sc_knot_shows.nd rfl (.inl rfl)) pgs_nil))))
      (pss_cons (ps_if (pt_cmpR (op_eqAS hr.units0) (pv 4) pe_str (nomark _))
        (pss_one (ps_ret (pe_call G_rings_show (hr.mono (by omega)) (by rfl) g_rings_show k_rings_show b_rings_show .nil pass0 (pa_cons (pv 0) (pa_cons (pv 1) (pa_cons (pv 2) (pa_cons (pv 5) pa_nil)))))))
        pss_nil)
      (pss_one (ps_ret (pe_ifExp (pt_cmpR (op_eqAS hr.units0) (pv 4) pe_str (nomark _)) (pe_call G_split_shows (hr.mono (by omega)) (by rfl) g_split_shows k_split_shows b_split_shows .nil pass0 (pa_cons (pv 0) (pa_cons (pv 1) (pa_cons (pv 2) (pa_cons (pv 5) pa_nil))))) pe_non))))))), ?_⟩
    have kv := hP.kn
    have hPu := hP.up
    refine ⟨v, rfl, 5, v, rfl, kv, _, rfl, ?_⟩
    cases h5 : lenIs H v 5 with
    | true =>
      obtain ⟨xs, hx, lx⟩ := len_is h5
      obtain ⟨w0, p, q0, a, b, rfl⟩ := five_of lx
      obtain ⟨va, rfl, hva⟩ := parts_at hx
      have h2 : lenIs H (.ref va) 2 = false := by
        unfold lenIs
        rw [hx]
        rfl
      have kw := ((hPu.2 _ hx).1 w0 (by simp)).kn
      rw [shown_five hx] at q
      refine ⟨.ref va, rfl, va, _, 0, w0, rfl, rfl, SqT.of hva, rfl, _, rfl, kw, _, rfl, ?_⟩
      cases hw : decide (w0 = V.str "case") with
      | true =>
        rw [if_pos (of_decide_eq_true hw)] at q
        cases d with
        | zero =>
          have e0 : parts H (.ref va) = none := (show Kn H (.ref va) ∧ parts H (.ref va) = none from hP).2
          rw [hx] at e0
          cases e0
        | succ d1 =>
          have hx1 := (hP.2 _ hx).1
          exact ⟨wv, rfl, .ref lv, rfl, .ref gv, rfl, .ref va, rfl, wv, lv, gv, va, n, ts, lim, given, w0, p, q0, a, b, d1, rfl, rfl, hK, l120, hva, (hx1 p (by simp)).kn, (hx1 q0 (by simp)).kn, hx1 a (by simp), hx1 b (by simp), hT, q⟩
      | false =>
        rw [if_neg (of_decide_eq_false hw)] at q
        refine ⟨.ref va, rfl, 2, .ref va, rfl, kv, _, rfl, ?_⟩
        rw [h2]
        exact q _ (Kt.refl hT)
    | false =>
    refine ⟨v, rfl, 2, v, rfl, kv, _, rfl, ?_⟩
    cases h2 : lenIs H v 2 with
    | false =>
      rw [shown_not h2 h5] at q
      exact q _ (Kt.refl hT)
    | true =>
    obtain ⟨xs, hx, lx⟩ := len_is h2
    obtain ⟨w0, r, rfl⟩ := two_of lx
    obtain ⟨va, rfl, hva⟩ := parts_at hx
    have kw := ((hPu.2 _ hx).1 w0 (by simp)).kn
    have kr := ((hPu.2 _ hx).1 r (by simp)).kn
    rw [shown_two hx] at q
    obtain ⟨t1, i1, j1⟩ := kn_tup (K := K) kr
    refine ⟨.ref va, rfl, va, _, 1, r, rfl, rfl, SqT.of hva, rfl, r, _, t1, _, _, rfl, .ty "tuple", i1, j1, _, rfl, ?_⟩
    cases hi : isT H r with
    | false =>
      rw [parts_none hi] at q
      exact q _ (Kt.refl hT)
    | true =>
    obtain ⟨rv, rows, rfl, hrv⟩ := isT_at hi
    rw [parts_of' hrv] at q
    have q : ∀ H', Kt Ps H H' → Q (optV (if w0 = .str "rings" then ringsS H n ts lim given rows else if w0 = .str "split" then splitS H lim.length given (fun es p => shownS d H n ts lim es p) rows else none)) H' := q
    refine ⟨.ref va, rfl, va, _, rfl, SqT.of hva, rfl, _, _, rfl, _, _, rfl, rfl, ?_⟩
    cases d with
    | zero =>
      have e0 : parts H (.ref va) = none := (show Kn H (.ref va) ∧ parts H (.ref va) = none from hP).2
      rw [hx] at e0
      cases e0
    | succ d1 =>
    have pr := (hP.2 _ hx).1 (.ref rv) (by simp)
    have prows := pr.up.2 _ (parts_of' hrv)
    refine ⟨w0, rfl, _, rfl, kw, _, rfl, ?_⟩
    cases hw : decide (w0 = V.str "rings") with
    | true =>
      rw [if_pos (of_decide_eq_true hw)] at q
      exact ⟨wv, rfl, .ref lv, rfl, .ref gv, rfl, .ref rv, rfl, wv, lv, gv, rv, n, ts, lim, given, rows, d1, rfl, hK, hrv, prows.1, prows.2, hT, q⟩
    | false =>
    rw [if_neg (of_decide_eq_false hw)] at q
    refine ⟨w0, rfl, _, rfl, kw, _, rfl, ?_⟩
    cases hs : decide (w0 = V.str "split") with
    | true =>
      rw [if_pos (of_decide_eq_true hs)] at q
      exact ⟨wv, rfl, .ref lv, rfl, .ref gv, rfl, .ref rv, rfl, wv, lv, gv, rv, n, ts, lim, given, rows, rfl, hK, l120, hrv, fun x hx => (prows.1 x hx).up, hT, q⟩
    | false =>
      rw [if_neg (of_decide_eq_false hs)] at q
      exact q _ (Kt.refl hT)
/-- the three defs that call one another, by depth -/
theorem ok_knots {fk fs fc : Addr} {dk ds dc : FuncData} {Ps : List Addr} (Fk : Fun K "knot_shows" "knot_shows" s_knot_shows fk dk) (Fs : Fun K "split_shows" "split_shows" s_split_shows fs ds) (Fc : Fun K "case_shows" "case_shows" s_case_shows fc dc) (M : Free mg) (m_min : mg "min" = none) (gk : mg "knot_shows" = some (.ref fk)) (gs : mg "split_shows" = some (.ref fs)) (gc : mg "case_shows" = some (.ref fc))
    (bk : Binds K dk ["web", "limits", "given", "thing"] []) (bs : Binds K ds ["web", "limits", "given", "rows"] []) (bc : Binds K dc ["web", "limits", "given", "thing"] []) (D_is_tuple_of : Df P w K mg base 1 "is_tuple_of" ["length", "thing"] spTupleOf) (D_rings_show : Df P w K mg base 11 "rings_show" ["web", "limits", "given", "rows"] (spRingsShow Ps)) (D_is_split_row : Df P w K mg base 6 "is_split_row" ["limits", "given", "taken", "thing"] (spSplitRow Ps)) (D_are_unlike_places : Df P w K mg base 3 "are_unlike_places" ["many", "one", "other"] spUnlikePl) :
    ∀ d : Nat, FnOk P w K mg base CX0 (20 + 2 * d) fk dk ["web", "limits", "given", "thing"] (spKnot Ps d)
  | 0 => ⟨fun vs H Q E h => h.elim, fun B out z H ar us vs Q E _ _ _ _ h => h.elim⟩
  | d + 1 => by
    have Dk : Df P w K mg base (20 + 2 * d) "knot_shows" ["web", "limits", "given", "thing"] (spKnot Ps d) := ⟨fk, dk, ok_knots Fk Fs Fc M m_min gk gs gc bk bs bc D_is_tuple_of D_rings_show D_is_split_row D_are_unlike_places d, gk, Fk.kp, bk⟩
    have Ds : Df P w K mg base (20 + 2 * d + 1) "split_shows" ["web", "limits", "given", "rows"] (spSplitShows Ps d) := ⟨fs, ds, ok_split_shows d Fs D_is_split_row Dk, gs, Fs.kp, bs⟩
    have Dc : Df P w K mg base (20 + 2 * d + 1) "case_shows" ["web", "limits", "given", "thing"] (spCaseShows Ps d) := ⟨fc, dc, ok_case_shows d Fc m_min D_are_unlike_places Dk, gc, Fc.kp, bc⟩
    have e : 20 + 2 * (d + 1) = 20 + 2 * d + 1 + 1 := by omega
    rw [e]
    exact ok_knot_step d Fk M D_is_tuple_of Dc D_rings_show Ds
end
/-! ### weights of ties -/
def gW (ws : List Int) (x : Int) : Int := ws.getD x.toNat 0
def spWeightOf : Sp := fun vs H Q _ => (∃ i, vs = [.non, .int i] ∧ Q (.int 1) H) ∨ ∃ a xs i v, vs = [.ref a, .int i] ∧ H a = some (.tup xs) ∧ atI xs i = some v ∧ Q v H
/-- whose weights: of None each 1 -/
def Wts (H : Hp) (v : V) (ns : List Int) (g : Int → Int) : Prop := (v = .non ∧ ∀ x ∈ ns, g x = 1) ∨ ∃ a ws, v = .ref a ∧ H a = some (.tup (ws.map V.int)) ∧ ∀ x ∈ ns, (0 ≤ x ∧ x < (ws.length : Int)) ∧ g x = gW ws x
theorem Wts.tk {H H' : Hp} (k : Tk H H') {v : V} {ns : List Int} {g : Int → Int} (h : Wts H v ns g) : Wts H' v ns g := by
  rcases h with h | ⟨a, ws, e, h1, h2⟩
  · exact .inl h
  · exact .inr ⟨a, ws, e, k _ _ h1, h2⟩
def sumW (g : Int → Int) (ns : List Int) : Int := (ns.map g).sum
theorem sumW_snoc (g : Int → Int) (ns : List Int) (x : Int) : sumW g (ns ++ [x]) = sumW g ns + g x := by
  unfold sumW
  rw [List.map_append, List.sum_append]
  simp
theorem sumW_one {g : Int → Int} : ∀ {ns : List Int}, (∀ x ∈ ns, g x = 1) → sumW g ns = ns.length
  | [], _ => rfl
  | n :: ns, h => by
    have ih := sumW_one (ns := ns) fun x hx => h x (List.mem_cons_of_mem _ hx)
    unfold sumW at ih ⊢
    rw [List.map_cons, List.sum_cons, ih, h n (by simp), List.length_cons]
    omega
theorem gW_at {ws : List Int} {x : Int} (h0 : 0 ≤ x) (h1 : x < (ws.length : Int)) : atI (ws.map V.int) x = some (.int (gW ws x)) := by
  have h : x.toNat < ws.length := by omega
  refine atI_of h0 ?_
  unfold gW
  rw [List.getElem?_map, List.getD_eq_getElem?_getD, List.getElem?_eq_getElem h]
  rfl
section
variable {P : Program} {w : World} {K : PySem.W.Frag} {mg : Str → Option Value} {base : Heap}
theorem ok_weight_of {f : Addr} {fd : FuncData} (F : Fun K "weight_of" "weight_of" s_weight_of f fd) : FnOk P w K mg base CX0 1 f fd ["weights", "tie"] spWeightOf := by
  refine F.ok sc_weight_of (fun vs H Q E h => ?_) (fun cdv A outer s H vs Q E hr h => ?_)
  · rcases h with ⟨i, rfl, _⟩ | ⟨a, xs, i, v, rfl, _⟩ <;> rfl
  · refine ⟨_, (pss_cons (ps_if (pt_cmpR op_isN (pv 0) pe_non (nomark _))
        (pss_one (ps_ret pe_int))
        pss_nil)
      (pss_one (ps_ret (pe_ix ix_tup (pv 0) (pv 1) (fun _ _ => rfl))))), ?_⟩
    rcases h with ⟨i, rfl, q⟩ | ⟨a, xs, i, v, rfl, h1, h2, q⟩
    · exact ⟨.non, rfl, rfl, _, rfl, q⟩
    · exact ⟨.ref a, rfl, rfl, _, rfl, .ref a, rfl, .int i, rfl, a, xs, i, v, rfl, rfl, SqT.of h1, h2, q⟩
end
/-! ### papers: shown_by -/
def limW (g : Int → Int) (m : Nat) : List Int := (rng m).map fun x => 2 * g x
theorem limW_len (g : Int → Int) (m : Nat) : (limW g m).length = m := by
  unfold limW
  rw [List.length_map, rng_length]
theorem limW_succ (g : Int → Int) (m : Nat) : limW g (m + 1) = limW g m ++ [2 * g (m : Int)] := by
  unfold limW
  rw [rng_succ, List.map_append]
  rfl
theorem rng_nd49 (m : Nat) : (rng m).Nodup := (rng_rising m).imp fun {a b} h => by omega
/-- a dict over a range -/
theorem dc_range49 {n : Nat} {g : TG} {tt : TT} {tk tv : TE} {vs : List Nat} {σ : L2.St} {H1 : Hp} {D : Addr} {Qd : Hp → Prop} (Pv : Nat → Hp → Prop) (h0 : Pv 0 (upd H1 D (.dK [])))
    (hs : ∀ (j : Nat) H, j < n → Pv j H → g (.int (0 + (j : Nat))) (wipe σ vs) H fun σ2 H2 => wipe σ2 vs = wipe σ vs ∧ tt σ2 H2 fun b H3 =>
      if b = true then tk σ2 H3 fun y H4 => tv σ2 H4 fun z H5 => ∃ kvs k, y = kV k ∧ H5 D = some (.dK kvs) ∧ kvs.length < sizeLine ∧ Pv (j + 1) (upd H5 D (.dK (putK kvs k z))) else Pv (j + 1) H3) (hd : ∀ H, Pv n H → Qd H) :
    ∃ W : Nat → Nat → Hp → Prop, (∃ m, W 0 m (upd H1 D (.dK []))) ∧ ∀ i m H, W i m H →
      ((Itr 0 n).stop i H ∧ Qd H) ∨ ((Itr 0 n).go i H ∧ ∃ Nx : Hp → Prop, (∀ H', Nx H' → ∃ m', m' < m ∧ W (i + 1) m' H') ∧ ∀ x H', (Itr 0 n).yld i H x H' → g x (wipe σ vs) H' fun σ2 H2 => wipe σ2 vs = wipe σ vs ∧ tt σ2 H2 fun b H3 =>
        if b = true then tk σ2 H3 fun y H4 => tv σ2 H4 fun z H5 => ∃ kvs k, y = kV k ∧ H5 D = some (.dK kvs) ∧ kvs.length < sizeLine ∧ Nx (upd H5 D (.dK (putK kvs k z))) else Nx H3) := by
  refine ⟨fun i m H => m = n - i ∧ i ≤ n ∧ Pv i H, ⟨n, by simp, Nat.zero_le _, h0⟩, ?_⟩
  rintro i m H ⟨rfl, hi, p⟩
  by_cases hlt : i < n
  · refine .inr ⟨hlt, Pv (i + 1), fun H' p' => ⟨n - (i + 1), by omega, rfl, hlt, p'⟩, fun x H' y => ?_⟩
    obtain ⟨e, y⟩ := y
    subst e
    subst y
    exact hs i _ hlt p
  · have e : i = n := by omega
    subst e
    exact .inl ⟨Nat.le_refl _, hd H p⟩
def spShownBy (Ps : List Addr) (d : Nat) : Sp := fun vs H Q _ => ∃ (wv wt v : V) (n : Int) (ts : List Tie) (g : Int → Int), vs = [wv, wt, v] ∧ WebAt H wv n ts ∧ WebOk n ts ∧ ts.length + d ≤ 120 ∧ Wts H wt (rng ts.length) g ∧ PapV d H v ∧ Tabs Ps H ∧ ∀ H', Kt Ps H H' → Q (optV (shownS (d + 1) H n ts (limW g ts.length) (rng ts.length) v)) H'
section
variable {P : Program} {w : World} {K : PySem.W.Frag} {mg : Str → Option Value} {base : Heap}
set_option maxHeartbeats 4000000 in
theorem ok_shown_by {f : Addr} {fd : FuncData} {Ps : List Addr} (d : Nat) (F : Fun K "shown_by" "shown_by" s_shown_by f fd) (M : Free mg) (D_weight_of : Df P w K mg base 1 "weight_of" ["weights", "tie"] spWeightOf) (D_knot_shows : Df P w K mg base (20 + 2 * (d + 1)) "knot_shows" ["web", "limits", "given", "thing"] (spKnot Ps (d + 1))) : FnOk P w K mg base CX0 (23 + 2 * d) f fd ["web", "weights", "thing"] (spShownBy Ps d) := by
  obtain ⟨f_weight_of, fd_weight_of, G_weight_of, g_weight_of, k_weight_of, b_weight_of⟩ := D_weight_of
  obtain ⟨f_knot_shows, fd_knot_shows, G_knot_shows, g_knot_shows, k_knot_shows, b_knot_shows⟩ := D_knot_shows
  rw [show 23 + 2 * d = 22 + 2 * d + 1 by omega]
  refine F.ok sc_shown_by (fun vs H Q E h => ?_) (fun cdv A outer s H vs Q E hr h => ?_)
  · obtain ⟨wv, wt, v, n, ts, g, rfl, _⟩ := h
    rfl
  · obtain ⟨wv, wt, v, n, ts, g, rfl, hW, ok, l120, hwt, hP, hT, q⟩ := h
    refine ⟨_, (pss_cons (ps_setLc (i := 3) (own := [("tie", 4)]) (g := (gName 4)) (tt := tYes) rfl sc_shown_by.nd rfl rfl (sw_true rfl rfl rfl (by decide +kernel)) (pi_range1 (by rfl) M.range (pa_cons (pe_callB call_len_seq (by rfl) M.len PySem.boot_len (pa_cons (pe_ix ix_tup (pv 0) pe_int (fun _ _ => rfl)) pa_nil)) pa_nil)) (blkOk_by (N := N_shown_by) (sc := defScope s_shown_by) (own := [("tie", 4)]) (by decide +kernel)) (fun _ _ _ _ _ => (pg_name (i := 4) sc_shown_by.nd rfl (.inl rfl))) (fun _ _ _ _ _ => pts_nil) (fun _ _ _ _ _ => (pe_op op_mul pe_int (pe_call G_weight_of (hr.mono (by omega)) (by rfl) g_weight_of k_weight_of b_weight_of .nil pass0 (pa_cons (pv 1) (pa_cons (pv 4) pa_nil))))))
      (pss_cons (ps_setDc (i := 5) (own := [("tie", 4)]) (g := gName 4) (tt := tYes) rfl sc_shown_by.nd rfl rfl (sw_trueD rfl rfl rfl (by decide +kernel)) (pi_range1 (by rfl) M.range (pa_cons (pe_callB call_len_seq (by rfl) M.len PySem.boot_len (pa_cons (pe_ix ix_tup (pv 0) pe_int (fun _ _ => rfl)) pa_nil)) pa_nil)) (blkOk_by (N := N_shown_by) (sc := defScope s_shown_by) (own := [("tie", 4)]) (by decide +kernel)) (fun _ _ _ _ _ => (pg_name (i := 4) sc_shown_by.nd rfl (.inl rfl))) (fun _ _ _ _ _ => pts_nil) (fun _ _ _ _ _ => (pv 4)) (fun _ _ _ _ _ => pe_bl))
      (pss_one (ps_ret (pe_call G_knot_shows (hr.mono (by omega)) (by rfl) g_knot_shows k_knot_shows b_knot_shows .nil pass0 (pa_cons (pv 0) (pa_cons (pv 3) (pa_cons (pv 5) (pa_cons (pv 2) pa_nil))))))))), ?_⟩
    obtain ⟨wa, wb, us, rfl, hwa, hwb, hpw⟩ := id hW
    have fts := ok.few
    have lus : us.length = ts.length := Paired.length hpw
    refine ⟨.ref wa, rfl, wa, _, 1, .ref wb, rfl, rfl, SqT.of hwa, rfl, wb, us, rfl, .inr (SqT.of hwb), us.length, rfl, by omega, by omega, fun Z nZ => ?_⟩
    rw [Int.toNat_natCast, lus]
    refine lc_range (lo := 0) (n := ts.length) (fun j H' => H' Z = some (.lst ((limW g j).map V.int)) ∧ Same H H') ⟨upd_same, same_new nZ⟩ ?_ ?_
    · rintro j H1 hj ⟨hZ, s1⟩
      have fin : ∀ w : Int, w = g (j : Int) → (upd H1 Z (.lst ((limW g j).map V.int ++ [.int (2 * w)]))) Z = some (.lst ((limW g (j + 1)).map V.int)) := fun w hw => by
        rw [upd_same, limW_succ, List.map_append, hw]
        rfl
      have hm : ((j : Nat) : Int) ∈ rng ts.length := mem_rng.mpr ⟨by omega, by omega⟩
      have lz : ((limW g j).map V.int).length < sizeLine := by rw [List.length_map, limW_len]; exact small1000 (by omega)
      rcases hwt.tk (Same.tk s1) with ⟨rfl, h1⟩ | ⟨a, ws, rfl, h1, h2⟩
      · refine ⟨rfl, .non, rfl, .int (0 + (j : Nat)), rfl, .inl ⟨_, rfl, ?_⟩⟩
        exact ⟨_, _, rfl, rfl, .inl ⟨by decide, by decide⟩, _, hZ, lz, fin 1 (h1 _ hm).symm, Same.mut s1 nZ⟩
      · obtain ⟨⟨b0, b1⟩, e⟩ := h2 _ hm
        refine ⟨rfl, .ref a, rfl, .int (0 + (j : Nat)), rfl, .inr ⟨a, _, _, _, rfl, h1, by rw [Int.zero_add]; exact gW_at b0 b1, ?_⟩⟩
        exact ⟨_, _, rfl, rfl, .inl ⟨by decide, by decide⟩, _, hZ, lz, fin _ e.symm, Same.mut s1 nZ⟩
    · rintro H1 ⟨hZ, s1⟩
      have k1 := Kt.same hT s1
      have T1 : Tabs Ps H1 := k1.tab
      refine ⟨.ref wa, rfl, wa, _, 1, .ref wb, rfl, rfl, SqT.of (s1 _ _ hwa), rfl, wb, us, rfl, .inr (SqT.of (s1 _ _ hwb)), us.length, rfl, by omega, by omega, fun D nD => ?_⟩
      rw [Int.toNat_natCast, lus]
      refine dc_range49 (n := ts.length) (fun j H' => H' D = some (.dK (kvG (rng j))) ∧ Same H1 H') ⟨upd_same, same_new nD⟩ ?_ ?_
      · rintro j H2 hj ⟨hD, s2⟩
        refine ⟨rfl, .int (0 + (j : Nat)), rfl, kvG (rng j), Sum.inl (0 + (j : Nat)), rfl, hD, ?_, ?_, Same.mut s2 nD⟩
        · unfold kvG
          rw [List.length_map, rng_length]
          exact small1000 (by omega)
        · rw [upd_same, Int.zero_add, kvG_put (fun z => by have := (mem_rng.mp z).2; omega), rng_succ]
      · rintro H2 ⟨hD, s2⟩
        have s02 := s1.trans s2
        have k2 := Kt.same hT s02
        have T2 : Tabs Ps H2 := k2.tab
        refine ⟨.ref wa, rfl, .ref Z, rfl, .ref D, rfl, v, rfl, .ref wa, Z, D, v, n, ts, limW g ts.length, rng ts.length, rfl, ⟨hW.tk (Same.tk s02), ok, s2 _ _ hZ, by rw [limW_len]; exact Nat.le_refl _, hD, fun e he => by rw [limW_len]; exact mem_rng.mp he, rng_nd49 _⟩, l120, hP.stay (.same s02), T2, fun H3 k3 => ?_⟩
        have e3 : shownS (d + 1) H2 n ts (limW g ts.length) (rng ts.length) v = shownS (d + 1) H n ts (limW g ts.length) (rng ts.length) v := shown_stay hP (.same s02) ..
        rw [e3]
        exact q H3 (k2.trans k3)
end
/-! ### sorted(t), a tuple of fewer than 64 ints -/
def rSortT (K : PySem.W.Frag) : List V → Hp → VK → Prop := fun vs H Q => ∃ (a : Addr) (ns : List Int), vs = [V.ref a] ∧ SqT K H a (ns.map V.int) ∧ ns.length < 64 ∧
  ∀ (ys : List Int) (p : Addr), ys.Perm ns → ys.Pairwise (· ≤ ·) → H p = none → Q (.ref p) (upd H p (.lst (ys.map V.int)))
theorem cr_sortT {X : Cx} (hc : X.calm = true) : CallR X (.builtin "sorted") (rSortT X.K) := by
  intro pins s σ H vs us Q I rel want
  obtain ⟨a, ns, ex, hq, few, q⟩ := want
  subst ex
  obtain ⟨u, eu, rx⟩ := vals1 rel
  subst eu
  obtain rfl : u = Value.ref a := rx
  obtain ⟨its, rv, tup, small⟩ := I.tuple hq
  have len : its.length = ns.length := by rw [← rv.length, List.length_map]
  refine Calls.call_function_entry PyProof.Rows.kind_sorted PyProof.Rows.plain_sorted PyProof.Rows.entry_sorted (PyProof.Rows.args_sorted1 _) ?_
  unfold Builtin.«sorted»
  refine wpAny_bind (m := checkCount "sorted" 1 1 _) (wpAny_pure ?_)
  obtain ⟨o, ho, hcls, m, hd⟩ := tup
  refine wpAny_bind (wpAny_collect_seq a (.inr rfl) ho hcls hd (fun h' kp => ?_) (by rw [List.size_toArray, len, sizeLine_eq]; omega))
  have hS : IntsAre its.toArray.toList ns := by simpa using rv.ints
  have J : Inv X pins σ H { s with heap := h' } := I.kept (t' := s.toks) kp
  have hal : its.toArray.toList.length = ns.length := by simpa using len
  refine wpAny_bind (wpAny_newList ?_ (by rw [hal, sizeLine_eq]; omega))
  have new : (h'.push (seqObj "list" its.toArray.toList.toArray 0)).get? h'.objs.size = some (seqObj "list" its.toArray.toList.toArray 0) := Heap.get?_push_size _ rfl
  show wpAny _ _ _ _ _ { s with heap := h'.push (seqObj "list" its.toArray.toList.toArray 0) }
  refine wpAny_bind (wpAny_holding (wpAny_call_entry PyProof.Rows.slot_list_sort ⟨_, new, rfl⟩ PyProof.Rows.entry_list_sort
    (PyProof.Rows.list_sort_tree (s := { s with heap := h'.push (seqObj "list" its.toArray.toList.toArray 0) }) new hS (by rw [hal]; exact few) fun out ys o1 o2 o3 => ⟨_, rfl, ?_⟩) (PyProof.Rows.args_list_sort _)))
  obtain ⟨e', he'⟩ := PyProof.Rows.sortedHeap_at (vs := its.toArray.toList) (out := out) new
  have fits : (ys.map V.int).length ≤ sizeLine := by
    rw [List.length_map, o2.length_eq, sizeLine_eq]
    omega
  refine wpAny_pure ⟨_, rfl, .ref h'.objs.size, upd H h'.objs.size (.lst (ys.map V.int)), J.laid (t' := s.toks) (fun b u e => ?_) (Nat.le_refl _)
    (show ObjOk X.prog X.w _ _ _ (.lst (ys.map V.int)) from ⟨fits, out.toList, e', vals_of_ints o1, by rw [Array.toArray_toList]; exact he'⟩), rfl, q ys _ o2 o3 (J.hok.fresh (Nat.le_refl _))⟩
  have lb : b < h'.objs.size := Heap.lt_size e
  rw [PyProof.Rows.sortedHeap_old (Nat.ne_of_lt lb) (by rw [size_push']; exact Nat.lt_succ_of_lt lb)]
  exact Heap.get?_push_of_some _ e
/-! ### the law's own look at rings -/
theorem pair_sort {ys : List Int} {x y : Int} (h : ys.Perm [x, y]) (s : ys.Pairwise (· ≤ ·)) : ys = [min x y, max x y] := by
  have l := h.length_eq
  match ys, l, h, s with
  | [p, q], _, h, s =>
    have h1 : p = x ∨ p = y := by simpa using h.mem_iff.mp (show p ∈ [p, q] by simp)
    have h2 : q = x ∨ q = y := by simpa using h.mem_iff.mp (show q ∈ [p, q] by simp)
    have h3 : x = p ∨ x = q := by simpa using h.mem_iff.mpr (show x ∈ [x, y] by simp)
    have h4 : y = p ∨ y = q := by simpa using h.mem_iff.mpr (show y ∈ [x, y] by simp)
    have h5 : p ≤ q := by simpa using s
    have e1 : p = min x y := by omega
    have e2 : q = max x y := by omega
    rw [← e1, ← e2]
def listD (xs : List Int) : PyData := .list (xs.map PyData.int)
theorem shaped_listD (xs : List Int) : SeqAt.shaped (listD xs) = true := by
  unfold SeqAt.shaped listD
  rw [PyData.canLay0, lay_ints, PyData.depth, deep_ints]
  rfl
theorem eqv_pairs (x y u v : Int) : PyData.eqv (listD [x, y]) (listD [u, v]) = (decide (x = u) && decide (y = v)) := by
  show PyData.eqv (.list [.int x, .int y]) (.list [.int u, .int v]) = _
  rw [PyData.eqv, PyData.eqvAll, PyData.eqv, PyData.eqvAll, PyData.eqv, PyData.eqvAll, Bool.and_true]
  rw [Bool.eq_iff_iff, Bool.and_eq_true, Bool.and_eq_true, beq_iff_eq, beq_iff_eq, decide_eq_true_iff, decide_eq_true_iff]
theorem join_sort (t : Tie) (a b : Int) : (decide (min t.one t.other = min a b) && decide (max t.one t.other = max a b)) = joinB t a b := by
  unfold joinB
  rw [Bool.eq_iff_iff]
  simp only [Bool.and_eq_true, Bool.or_eq_true, decide_eq_true_iff]
  omega
theorem parts_same {H H' : Hp} (s : Same H H') {v : V} (h : Kn H v) : parts H' v = parts H v := by
  cases v with
  | ref a =>
    unfold parts
    rcases h with ⟨xs, h⟩ | ⟨xs, h⟩ | ⟨xs, h⟩
    · simp only [h, s _ _ h]
    · simp only [h, s _ _ h]
    · simp only [h, s _ _ h]
  | _ => rfl
theorem Kn.same {H H' : Hp} (s : Same H H') {v : V} (h : Kn H v) : Kn H' v := by
  cases v with
  | ref a =>
    rcases h with ⟨xs, h⟩ | ⟨xs, h⟩ | ⟨xs, h⟩
    · exact .inl ⟨xs, s _ _ h⟩
    · exact .inr (.inl ⟨xs, s _ _ h⟩)
    · exact .inr (.inr ⟨xs, s _ _ h⟩)
  | _ => exact h
theorem Part2.same {H H' : Hp} (s : Same H H') {v : V} (h : Part2 H v) : Part2 H' v :=
  ⟨Kn.same s h.1, fun ys e => by
    rw [parts_same s h.1] at e
    obtain ⟨h1, h2⟩ := h.2 ys e
    exact ⟨fun y hy => Kn.same s (h1 y hy), h2⟩⟩
theorem in_ints (z : Int) (ns : List Int) : inV (.int z) (ns.map V.int) = decide (z ∈ ns) := by
  rw [Bool.eq_iff_iff, decide_eq_true_iff]
  unfold inV
  rw [List.any_map, List.any_eq_true]
  constructor
  · rintro ⟨x, hx, e⟩
    have e' : (x == z) = true := e
    rw [beq_iff_eq] at e'
    rw [← e']
    exact hx
  · intro h
    exact ⟨z, h, by show (z == z) = true; simp⟩
theorem flat_ints (xs : List Int) : (xs.map V.int).all flatV = true := by
  rw [List.all_map, List.all_eq_true]
  intro x _
  rfl
theorem cut_take {xs : List V} {k : Nat} (h : k ≤ xs.length) : cutV xs none (some (k : Int)) = xs.take k := by
  unfold cutV
  rw [HT.sIx_none, HT.sIx_nat, Nat.min_eq_left h, List.drop_zero]
  rfl
/-! ### papers: the law's own look at a ring -/
def spLIsRing : Sp := fun vs H Q _ => ∃ (n : Int) (tb : Addr) (us : List V) (ts : List Tie) (v : V), vs = [.int n, .ref tb, v] ∧ H tb = some (.tup us) ∧ Paired (TieV H) us ts ∧ WebOk n ts ∧ Thing2 H v ∧ ∀ H', Same H H' → Q (.bl (oddB H n ts v)) H'
theorem odd_no {H : Hp} {n : Int} {ts : List Tie} {v : V} (h : ringB H n ts v = false) : oddB H n ts v = false := by
  unfold oddB
  rw [h]
  rfl
theorem ringB_two {H : Hp} {n : Int} {ts : List Tie} {a : Addr} {pa ta : Addr} {ps es : List V} (ha : H a = some (.tup [.ref pa, .ref ta])) (hp : H pa = some (.tup ps)) (ht : H ta = some (.tup es)) : ringB H n ts (.ref a) = ringP n ts (some ps) (some es) := by
  unfold ringB
  rw [parts_of' ha]
  show ringP n ts (parts H (.ref pa)) (parts H (.ref ta)) = _
  rw [parts_of' hp, parts_of' ht]
theorem ringB_other {H : Hp} {n : Int} {ts : List Tie} {a : Addr} {xs : List V} (ha : H a = some (.tup xs)) (h : ∀ p t, xs ≠ [p, t]) : ringB H n ts (.ref a) = false := by
  unfold ringB
  rw [parts_of' ha]
  match xs, h with
  | [], _ => rfl
  | [_], _ => rfl
  | [p, t], h => exact (h p t rfl).elim
  | _ :: _ :: _ :: _, _ => rfl
theorem ringB_first {H : Hp} {n : Int} {ts : List Tie} {a : Addr} {p t : V} (ha : H a = some (.tup [p, t])) (h : parts H p = none ∨ parts H t = none) : ringB H n ts (.ref a) = false := by
  unfold ringB
  rw [parts_of' ha]
  show ringP n ts (parts H p) (parts H t) = false
  rcases h with h | h <;> rw [h]
  · rfl
  · cases parts H p <;> rfl
theorem unl_ints {lim : Int} {xs : List V} (h : unl lim (some xs) = true) : ∃ ns : List Int, xs = ns.map V.int ∧ (∀ x ∈ ns, 0 ≤ x ∧ x < lim) ∧ ns.Nodup := by
  have h : (xs.all (wbelow lim) && decide xs.Nodup) = true := h
  rw [Bool.and_eq_true] at h
  obtain ⟨ns, rfl, b⟩ := ints_of h.1
  exact ⟨ns, rfl, b, nodup_ints.mp (of_decide_eq_true h.2)⟩
theorem wbelow_parts {lim : Int} {x : V} : wbelow lim x = (isW x && match x with | .int i => !decide (i < 0) && !decide (i ≥ lim) | _ => true) := by
  cases x with
  | int i =>
    show (decide (0 ≤ i) && decide (i < lim)) = (true && (!decide (i < 0) && !decide (i ≥ lim)))
    rw [Bool.true_and, Bool.eq_iff_iff]
    simp only [Bool.and_eq_true, decide_eq_true_iff, Bool.not_eq_true', decide_eq_false_iff_not]
    omega
  | _ => rfl
section
variable {P : Program} {w : World} {K : PySem.W.Frag} {mg : Str → Option Value} {base : Heap}
end
/-! ### papers: the law's own walk: rings -/
theorem PapV.thing_stay {d : Nat} {H H' : Hp} {v : V} (h : PapV d H v) (s : StayP H H') : Thing2 H' v := (h.stay s).thing
theorem Paired.app2F {α β : Type} {R : α → β → Prop} : ∀ {xs : List α} {ys : List β} {us : List α} {vs : List β}, Paired R xs ys → Paired R us vs → Paired R (xs ++ us) (ys ++ vs)
  | _, _, _, _, .nil, h => h
  | _, _, _, _, .cons a t, h => .cons a (Paired.app2F t h)
structure WorldAt (H : Hp) (wv : V) (n : Int) (ts : List Tie) (g : Int → Int) : Prop where
  ex : ∃ (a tb : Addr) (wt : V) (us : List V), wv = .ref a ∧ H a = some (.tup [.int n, .ref tb, wt]) ∧ H tb = some (.tup us) ∧ Paired (TieV H) us ts ∧ Wts H wt (rng ts.length) g
theorem WorldAt.tk {H H' : Hp} {wv : V} {n : Int} {ts : List Tie} {g : Int → Int} (k : Tk H H') (h : WorldAt H wv n ts g) : WorldAt H' wv n ts g := by
  obtain ⟨a, tb, wt, us, e, h1, h2, h3, h4⟩ := h.ex
  exact ⟨a, tb, wt, us, e, k _ _ h1, k _ _ h2, ties_tk k h3, h4.tk k⟩
def TiesAt (H : Hp) (sb : Addr) (su : List Tie) : Prop := ∃ us, H sb = some (.tup us) ∧ Paired (TieV H) us su
theorem TiesAt.tk {H H' : Hp} {sb : Addr} {su : List Tie} (k : Tk H H') (h : TiesAt H sb su) : TiesAt H' sb su := by
  obtain ⟨us, h1, h2⟩ := h
  exact ⟨us, k _ _ h1, ties_tk k h2⟩
def spLWeight : Sp := fun vs H Q _ => (∃ i, vs = [.non, .int i] ∧ Q (.int 1) H) ∨ ∃ a xs i v, vs = [.ref a, .int i] ∧ H a = some (.tup xs) ∧ atI xs i = some v ∧ Q v H
def spLRingsShown : Sp := fun vs H Q _ => ∃ (wv : V) (sb gb rv : Addr) (n : Int) (ts su : List Tie) (g : Int → Int) (given : List Int) (rows : List V) (d : Nat), vs = [wv, .ref sb, .ref gb, .ref rv] ∧ WorldAt H wv n ts g ∧ TiesAt H sb su ∧ WebOk n (ts ++ su) ∧ H gb = some (.tup (given.map V.int)) ∧ H rv = some (.tup rows) ∧ (∀ r ∈ rows, PapV d H r) ∧ ∀ H', Same H H' → Q (optV (ringsS H n (ts ++ su) (limW g ts.length) given rows)) H'
theorem limW_at {g : Int → Int} {m : Nat} {e : Int} (h0 : 0 ≤ e) (h1 : e < (m : Int)) : (limW g m).getD e.toNat 0 = 2 * g e := by
  unfold limW rng
  rw [List.getD_eq_getElem?_getD, List.getElem?_map, List.getElem?_map, List.getElem?_range (by omega)]
  show 2 * g (e.toNat : Int) = 2 * g e
  rw [Int.toNat_of_nonneg h0]
theorem rowR_is {H : Hp} {n : Int} {ts : List Tie} {v : V} {en : List Int} {t : Int} (e : rowR H n ts v = some (en, t)) : ∃ (va ra ta : Addr) (p : V), v = .ref va ∧ H va = some (.tup [.ref ra, .int t]) ∧ H ra = some (.tup [p, .ref ta]) ∧ H ta = some (.tup (en.map V.int)) ∧ 1 ≤ t ∧ (∀ e ∈ en, 0 ≤ e ∧ e < (ts.length : Int)) ∧ en.Nodup := by
  have h : rowOk H n ts 0 [] v = (en.all fun e => decide (e ∈ ([] : List Int)) || decide ((0 : Int) ≤ e)) := by
    unfold rowOk
    rw [e]
    rfl
  cases hb : rowOk H n ts 0 [] v with
  | true =>
    obtain ⟨va, ra, ta, p, en', t', rfl, h1, h2, h3, eR, t1, hen, nen, _, _⟩ := rowOk_is hb
    rw [eR] at e
    obtain ⟨rfl, rfl⟩ := Prod.mk.inj (Option.some.inj e)
    exact ⟨va, ra, ta, p, rfl, h1, h2, h3, t1, hen, nen⟩
  | false =>
    exfalso
    rw [hb] at h
    cases ep : parts H v with
    | none => unfold rowR at e; rw [ep] at e; cases e
    | some xs =>
      cases h2 : lenIs H v 2 with
      | false => rw [rowR_not h2] at e; cases e
      | true =>
        obtain ⟨ys, hy, ly⟩ := len_is h2
        obtain ⟨a, b, rfl⟩ := two_of ly
        rw [rowR_two hy] at e
        cases hw : (wfrom 1 b && oddB H n ts a) with
        | false => rw [hw] at e; cases e
        | true =>
          rw [hw, if_pos rfl] at e
          obtain ⟨e1, _⟩ := Prod.mk.inj (Option.some.inj e)
          rw [Bool.and_eq_true] at hw
          obtain ⟨_, _, _, en', _, _, _, et, hen, _, _⟩ := odd_ties hw.2
          rw [et] at e1
          subst e1
          have : (en'.all fun e => decide (e ∈ ([] : List Int)) || decide ((0 : Int) ≤ e)) = true := by
            rw [List.all_eq_true]
            intro z hz
            rw [decide_eq_true (hen z hz).1, Bool.or_true]
          rw [this] at h
          cases h
section
variable {P : Program} {w : World} {K : PySem.W.Frag} {mg : Str → Option Value} {base : Heap}
set_option maxHeartbeats 4000000 in
theorem ok_l_weight {f : Addr} {fd : FuncData} (F : Fun K "_law_weight" "_law_weight" s_l_weight f fd) : FnOk P w K mg base CX0 1 f fd ["_law_weights_here", "_law_tie"] spLWeight := by
  refine F.ok sc_l_weight (fun vs H Q E h => ?_) (fun cdv A outer s H vs Q E hr h => ?_)
  · rcases h with ⟨i, rfl, _⟩ | ⟨a, xs, i, v, rfl, _⟩ <;> rfl
  · refine ⟨_, (pss_cons (ps_if (pt_cmpR op_isN (pv 0) pe_non (nomark _))
        (pss_one (ps_ret pe_int))
        pss_nil)
      (pss_one (ps_ret (pe_ix ix_tup (pv 0) (pv 1) (fun _ _ => rfl))))), ?_⟩
    rcases h with ⟨i, rfl, q⟩ | ⟨a, xs, i, v, rfl, h1, h2, q⟩
    · exact ⟨.non, rfl, rfl, _, rfl, q⟩
    · exact ⟨.ref a, rfl, rfl, _, rfl, .ref a, rfl, .int i, rfl, a, xs, i, v, rfl, rfl, SqT.of h1, h2, q⟩
end
/-! ### sorted(t) of a tuple of ints -/
section
open PySem PySem.Spec PyProof.Rows SrtO
variable {prog : Program} {w : World} {A : PySem.Around} {E : Value → Shared → Prop} {s : Shared}
theorem collect_tupT {l : Addr} {vs : List Value} {Q : List Value → Shared → Prop} (hl : s.heap.IsTuple l vs.toArray)
    (h : Q vs { s with heap := (s.heap.push (seqObj "list" #[] 0)).update s.heap.objs.size (Obj.mapSeq (· ++ vs.toArray)) }) (hsz : vs.length ≤ sizeLine) :
    wpAny (model prog w) A (collect (.ref l)) Q E s := by
  obtain ⟨o, ho, hc, n, hd⟩ := id hl
  unfold collect
  refine wpAny_bind (wpAny_runValue (codeAny_builtin entry_proto_collect' ?_))
  show wpAny _ _ (do again (.builtin "list.__iadd__" ⟨[← newList [], .ref l], []⟩)) _ _ s
  refine wpAny_bind (wpAny_newList (wpAny_pure ⟨Code.quiet_builtin _ (by decide +kernel), codeAny_builtin entry_list_iadd' ?_⟩))
  show wpAny _ _ (Builtin.List.listExtendWith (.ref s.heap.objs.size) (.ref l) (.ref s.heap.objs.size)) _ _ { s with heap := s.heap.push (seqObj "list" #[] 0) }
  unfold Builtin.List.listExtendWith
  have ho' : (s.heap.push (seqObj "list" #[] 0)).get? l = some o := Heap.get?_push_of_some _ ho
  refine wpAny_bind (wpAny_typeOf (T := "tuple") ⟨o, ho', hc⟩ ?_)
  have ht : (Value.type "tuple" == Value.type "tuple") = true := by rfl
  rw [if_pos (by rw [ht]; simp)]
  refine wpAny_bind (listItems_at ho' hd ?_)
  refine wpAny_bind (listItems_at (xs := #[]) (n := 0) (Heap.get?_push_size _ rfl) rfl ?_)
  rw [if_neg (by simp)]
  refine wpAny_bind (listUpdate_at (xs := #[]) (n := 0) (Heap.get?_push_size _ rfl) rfl ?_ (Nat.zero_le _) (by show (#[] ++ vs.toArray).size ≤ sizeLine + 1; simp only [Array.size_append, List.size_toArray, List.length_nil]; omega))
  refine wpAny_pure ?_
  show wpAny (model prog w) A (do
      let o ← load s.heap.objs.size
      match o.data with
      | .seq xs _ => pure xs.toList
      | _ => unsupported "internal:collect") Q E { s with heap := (s.heap.push (seqObj "list" #[] 0)).update s.heap.objs.size (Obj.mapSeq (· ++ vs.toArray)) }
  refine wpAny_bind (wpAny_load (get?_update_seq (Heap.get?_push_size _ rfl) _) ?_)
  show wpAny _ _ (pure ((#[] : Array Value) ++ vs.toArray).toList) Q E _
  rw [show ((#[] : Array Value) ++ vs.toArray).toList = vs by simp]
  exact wpAny_pure h
theorem sorted_ordT {l : Addr} {vs : List Value} {ltv : Value → Value → Bool} {Q : Value → Shared → Prop} (O : Swo ltv) (hl : s.heap.IsTuple l vs.toArray) (hz : vs.length ≤ sizeLine)
    (hS : 2 ≤ vs.length → ∀ (h₁ : Heap) (a : Addr), h₁.get? a = some (seqObj "list" vs.toArray 0) → (∀ b o, s.heap.get? b = some o → b ≠ a ∧ h₁.get? b = some o) → SortableO prog w A.in1.in1 { s with heap := h₁ } a vs ltv)
    (h : ∀ out : List Value, Srtd ltv out → Stb ltv out vs → Q (.ref (s.heap.objs.size + 1)) { s with heap := sortedAll s.heap vs out.toArray }) :
    wpAny (model prog w) A (call (.builtin "sorted") [.ref l]) Q E s := by
  refine Calls.call_function_entry kind_sorted plain_sorted entry_sorted (args_sorted1 _) ?_
  unfold Builtin.«sorted»
  refine wpAny_bind (m := checkCount "sorted" 1 1 _) (wpAny_pure ?_)
  refine wpAny_bind (collect_tupT hl ?_ hz)
  refine wpAny_bind (wpAny_newList ?_ hz)
  have hsz : ((s.heap.push (seqObj "list" #[] 0)).update s.heap.objs.size (Obj.mapSeq (· ++ vs.toArray))).objs.size = s.heap.objs.size + 1 := by
    rw [Heap.size_update, size_push']
  have hoL : (((s.heap.push (seqObj "list" #[] 0)).update s.heap.objs.size (Obj.mapSeq (· ++ vs.toArray))).push (seqObj "list" vs.toArray 0)).get? (s.heap.objs.size + 1) = some (seqObj "list" vs.toArray 0) := by
    rw [← hsz]; exact Heap.get?_push_size _ rfl
  have keep : ∀ b o, s.heap.get? b = some o → b ≠ s.heap.objs.size + 1 ∧ (((s.heap.push (seqObj "list" #[] 0)).update s.heap.objs.size (Obj.mapSeq (· ++ vs.toArray))).push (seqObj "list" vs.toArray 0)).get? b = some o := fun b o q => by
    have hlt : b < s.heap.objs.size := Heap.lt_size q
    refine ⟨Nat.ne_of_lt (Nat.lt_succ_of_lt hlt), Heap.get?_push_of_some _ ?_⟩
    rw [Heap.get?_update_ne _ _ _ _ (Nat.ne_of_lt hlt)]
    exact Heap.get?_push_of_some _ q
  show wpAny _ _ _ _ _ { s with heap := ((s.heap.push (seqObj "list" #[] 0)).update s.heap.objs.size (Obj.mapSeq (· ++ vs.toArray))).push (seqObj "list" vs.toArray 0) }
  rw [hsz]
  refine wpAny_bind (wpAny_holding (wpAny_call_entry slot_list_sort ⟨_, hoL, rfl⟩ entry_list_sort (list_sort_ord O hoL hz (fun h2 => hS h2 _ _ hoL keep) fun out hs hb => ⟨_, rfl, ?_⟩) (args_list_sort _)))
  exact wpAny_pure ⟨_, rfl, h out hs hb⟩
end
def rSortedTI (K : PySem.W.Frag) : List V → Hp → VK → Prop := fun vs H Q => ∃ (a : Addr) (ns : List Int), vs = [V.ref a] ∧ SqT K H a (ns.map V.int) ∧
  ∀ (ns' : List Int) (p : Addr), ns'.Perm ns → ns'.Pairwise (· ≤ ·) → H p = none → Q (.ref p) (upd H p (.lst (ns'.map V.int)))
theorem cr_sortedTI {X : Cx} : CallR X (.builtin "sorted") (rSortedTI X.K) := by
  intro pins s σ H vs us Q I r h
  obtain ⟨a, ns, rfl, hs, q⟩ := h
  obtain ⟨its, rv, hl, hz⟩ := I.tuple hs
  rw [Vals.ref1 r]
  have hi := rv.ints
  refine sorted_ordT SrtO.swo_int hl (by rw [← rv.length]; exact hz) (fun h2 h₁ a' _ _ => SrtO.ints_sortable hi h2) fun out h1 h2 => ?_
  obtain ⟨k1, k2, k3⟩ := SrtO.ints_out hi h1 h2
  obtain ⟨ep, he'⟩ := PyProof.Rows.sortedAll_at s.heap its out.toArray
  have hlen : ((out.map SrtO.iv).map V.int).length ≤ sizeLine := by
    rw [List.length_map, k2.length_eq]
    rw [List.length_map] at hz
    exact hz
  exact ⟨.ref _, upd H (s.heap.objs.size + 1) (.lst ((out.map SrtO.iv).map V.int)), I.laid (t' := s.toks) (fun _ _ => PyProof.Rows.sortedAll_old) (Nat.le_succ _) ⟨hlen, out, ep, vals_of_ints k1, he'⟩, rfl, q _ _ k2 k3 (I.hok.fresh (Nat.le_succ _))⟩
/-! ### l.remove(k) where k is there -/
theorem takesNever {X : Cx} : Takes X (fun _ _ _ _ => False) := fun u s' x => by
  obtain ⟨a, B, sI, pins, σ, H, cls, d, e, I, nb, up, sky, na, os, ag, w⟩ := x
  exact w.elim
/-! ### papers: the law's own walk: splits -/
def spLShown : Nat → Sp
  | 0 => fun _ _ _ _ => False
  | d + 1 => fun vs H Q _ => ∃ (wv : V) (sb gb : Addr) (v : V) (n : Int) (ts su : List Tie) (g : Int → Int) (given : List Int), vs = [wv, .ref sb, .ref gb, v] ∧ WorldAt H wv n ts g ∧ TiesAt H sb su ∧ WebOk n (ts ++ su) ∧ (ts ++ su).length + d ≤ 120 ∧ H gb = some (.tup (given.map V.int)) ∧ given.Nodup ∧ (∀ e ∈ given, 0 ≤ e ∧ e < (ts.length : Int)) ∧ PapV d H v ∧ ∀ H', Same H H' → Q (optV (shownS (d + 1) H n (ts ++ su) (limW g ts.length) given v)) H'
def spLSplitShown (d : Nat) : Sp := fun vs H Q _ => ∃ (wv : V) (sb gb rv : Addr) (n : Int) (ts su : List Tie) (g : Int → Int) (given : List Int) (rows : List V), vs = [wv, .ref sb, .ref gb, .ref rv] ∧ WorldAt H wv n ts g ∧ TiesAt H sb su ∧ WebOk n (ts ++ su) ∧ (ts ++ su).length + d ≤ 120 ∧ H gb = some (.tup (given.map V.int)) ∧ given.Nodup ∧ (∀ e ∈ given, 0 ≤ e ∧ e < (ts.length : Int)) ∧ H rv = some (.tup rows) ∧ (∀ r ∈ rows, PapV d H r) ∧ ∀ H', Same H H' → Q (optV (splitS H ts.length given (fun es p => shownS d H n (ts ++ su) (limW g ts.length) es p) rows)) H'
theorem eqv_listI : ∀ xs ys : List Int, PyData.eqvAll (xs.map PyData.int) (ys.map PyData.int) = decide (xs = ys)
  | [], [] => by simp [PyData.eqvAll]
  | [], _ :: _ => by simp [PyData.eqvAll]
  | _ :: _, [] => by simp [PyData.eqvAll]
  | x :: xs, y :: ys => by
    rw [List.map_cons, List.map_cons, PyData.eqvAll, PyData.eqv, eqv_listI xs ys, Bool.eq_iff_iff]
    simp
theorem eqv_listD (xs ys : List Int) : PyData.eqv (listD xs) (listD ys) = decide (xs = ys) := by
  unfold listD
  rw [PyData.eqv, eqv_listI]
theorem chain_of : ∀ {ns : List Int}, ns.Pairwise (· < ·) → chainB (ns.map V.int) = true
  | [], _ => rfl
  | [_], _ => rfl
  | a :: b :: ns, h => by
    show (decide (a < b) && chainB ((b :: ns).map V.int)) = true
    have h' := List.pairwise_cons.mp h
    rw [chain_of h'.2, decide_eq_true (h'.1 b (by simp))]
    rfl
theorem rise_of {H : Hp} {m : Nat} {ta : Addr} {ns : List Int} (h : H ta = some (.tup (ns.map V.int))) (b : ∀ e ∈ ns, 0 ≤ e ∧ e < (m : Int)) (pw : ns.Pairwise (· < ·)) : riseB H m (.ref ta) = true := by
  unfold riseB
  rw [parts_of' h]
  show ((ns.map V.int).all (wbelow m) && chainB (ns.map V.int)) = true
  rw [chain_of pw, Bool.and_true, List.all_eq_true]
  intro x hx
  obtain ⟨z, hz, rfl⟩ := List.mem_map.mp hx
  have := b z hz
  show (decide (0 ≤ z) && decide (z < (m : Int))) = true
  rw [decide_eq_true this.1, decide_eq_true this.2]
  rfl
theorem rowT_noT {H : Hp} {m : Nat} {v a b : V} (h : parts H v = some [a, b]) (e : riseB H m a = false) : rowT H m v = none := by
  rw [rowT_two h, if_neg (by rw [e]; exact Bool.false_ne_true)]
theorem stepT_off {H : Hp} {m : Nat} {given tk : List Int} {tot : Int} {S : List Int → V → Option Int} {r : V} (h : rowT H m r = none) : stepT H m given S (some (tk, tot)) r = none := by
  rw [stepT_some, h]
section
variable {P : Program} {w : World} {K : PySem.W.Frag} {mg : Str → Option Value} {base : Heap}
end
/-! ### a tuple against an empty one -/
def rEqTE (K : PySem.W.Frag) : R2 := fun x y H Q => ∃ (a b : Addr) (xs : List V), x = .ref a ∧ y = .ref b ∧ SqT K H a xs ∧ SqT K H b [] ∧ Q (.bl xs.isEmpty) H
theorem op_eqTE {X : Cx} (hu : X.A.units < cLine) : OpR X (compareOp .Eq) (rEqTE X.K) := by
  intro pins s σ H x y v u Q I rx ry h
  obtain ⟨a, b, xs, rfl, rfl, ha, hb, q⟩ := h
  obtain rfl : v = Value.ref a := rx
  obtain rfl : u = Value.ref b := ry
  obtain ⟨its, r1, p1, _⟩ := I.tuple ha
  obtain ⟨its2, r2, p2, _⟩ := I.tuple hb
  cases r2
  refine SeqAt.eq_tupleAt (e := fun _ => true) p1 p2 hu (fun j _ h2 => absurd h2 (by simp)) ?_
  have e : ((List.range (min its.toArray.size ([] : List Value).toArray.size)).all (fun _ => true) && its.toArray.size == ([] : List Value).toArray.size) = xs.isEmpty := by
    have hl := r1.length
    cases xs with
    | nil =>
      have : its = [] := List.length_eq_zero_iff.mp (by rw [← hl]; rfl)
      rw [this]
      rfl
    | cons z zs =>
      cases its with
      | nil => simp at hl
      | cons w ws => simp
  exact ⟨.bl xs.isEmpty, H, I, by rw [e]; rfl, q⟩
/-! ### papers: the law's own walk: knots -/
def isStr49 : V → Bool
  | .str _ => true
  | _ => false
theorem kn_str49 {K : PySem.W.Frag} {H : Hp} {v : V} (h : Kn H v) : ∃ t, TyX K H v t ∧ PySem.W.kitOne K t (.type "str") = some (isStr49 v) := by
  cases v with
  | non => exact ⟨_, .base .non, kit_ty (r := false) (by decide +kernel)⟩
  | bl b => exact ⟨_, .base (.bl b), kit_ty (r := false) (by decide +kernel)⟩
  | int i => exact ⟨_, .base (.int i), kit_ty (r := false) (by decide +kernel)⟩
  | str s => exact ⟨_, .base (.str s), kit_ty (r := true) (by decide +kernel)⟩
  | ref a =>
    rcases h with ⟨xs, h⟩ | ⟨xs, h⟩ | ⟨xs, h⟩
    · exact ⟨_, .base (.lst h), kit_ty (r := false) (by decide +kernel)⟩
    · exact ⟨_, .base (.tup h), kit_ty (r := false) (by decide +kernel)⟩
    · exact ⟨_, .base (.dK h), kit_ty (r := false) (by decide +kernel)⟩
  | byt b => exact h.elim
  | flt b => exact h.elim
  | ty n => exact h.elim
theorem at0_49 {w : V} {r : List V} : atI (w :: r) 0 = some w := atI_nat (show (w :: r)[0]? = some w from rfl)
theorem shown_len {d : Nat} {H : Hp} {n : Int} {ts : List Tie} {lim given : List Int} {va w : V} {r : List V} (h : parts H va = some (w :: r)) (h2 : r.length ≠ 1) (hc : w ≠ .str "case" ∨ r.length ≠ 4) : shownS (d + 1) H n ts lim given va = none := by
  rw [shownS.eq_2, h]
  match r, h2, hc with
  | [], _, _ => rfl
  | [_], h2, _ => exact (h2 rfl).elim
  | [_, _], _, _ => rfl
  | [_, _, _], _, _ => rfl
  | [p, q, a, b], _, hc =>
    show (if w = .str "case" then _ else none) = none
    rw [if_neg (hc.elim id fun z => (z rfl).elim)]
  | _ :: _ :: _ :: _ :: _ :: _, _, _ => rfl
theorem shown_word {d : Nat} {H : Hp} {n : Int} {ts : List Tie} {lim given : List Int} {va w : V} {r : V} (h : parts H va = some [w, r]) (h1 : w ≠ .str "rings") (h2 : w ≠ .str "split") : shownS (d + 1) H n ts lim given va = none := by
  rw [shown_two h]
  cases parts H r with
  | none => rfl
  | some rows =>
    show (if w = .str "rings" then _ else if w = .str "split" then _ else none) = none
    rw [if_neg h1, if_neg h2]
theorem isT_stay {H H' : Hp} {a : V} (k : Kn H a) (s : Same H H') : isT H' a = isT H a := by
  have := (StayP.same s _ k).2
  cases h1 : isT H a with
  | false =>
    cases h2 : isT H' a with
    | false => rfl
    | true =>
      obtain ⟨x, xs, rfl, hx⟩ := isT_at h2
      rw [parts_of' hx, parts_none h1] at this
      cases this
  | true =>
    obtain ⟨x, xs, rfl, hx⟩ := isT_at h1
    exact isT_of (s _ _ hx)
theorem inTwoS (x a b : Str) : inV (.str x) [.str a, .str b] = (decide (V.str x = .str a) || decide (V.str x = .str b)) := by
  have e : inV (.str x) [.str a, .str b] = ((a == x) || ((b == x) || false)) := rfl
  have d : ∀ y : Str, decide (V.str x = .str y) = (y == x) := fun y => by
    rw [Bool.eq_iff_iff, decide_eq_true_iff, beq_iff_eq]
    exact ⟨fun h => (V.str.inj h).symm, fun h => by rw [h]⟩
  rw [e, d, d, Bool.or_false]
theorem caseS_ints {n : Int} {S : Tie → V → Option Int} {p q a b : V} (h : wbelow n p = false ∨ wbelow n q = false) : caseS n S p q a b = none := by
  refine caseS_off ?_
  unfold unlB
  rcases h with h | h <;> rw [h]
  · rfl
  · rw [Bool.false_and, Bool.and_false]
section
variable {P : Program} {w : World} {K : PySem.W.Frag} {mg : Str → Option Value} {base : Heap}
end
/-! ### papers: both walks told -/
def spTold (Ps : List Addr) (d : Nat) : Sp := fun vs H Q _ => ∃ (wv v : V) (n : Int) (ts : List Tie) (g : Int → Int), vs = [wv, v] ∧ WorldAt H wv n ts g ∧ WebOk n ts ∧ ts.length + d ≤ 120 ∧ PapV d H v ∧ Tabs Ps H ∧ ∀ H', Kt Ps H H' → Q (optV (shownS (d + 1) H n ts (limW g ts.length) (rng ts.length) v)) H'
section
variable {P : Program} {w : World} {K : PySem.W.Frag} {mg : Str → Option Value} {base : Heap}
set_option maxHeartbeats 2000000 in
theorem ok_l_told {f : Addr} {fd : FuncData} {Ps : List Addr} (d : Nat) (F : Fun K "_law_told" "_law_told" s_l_told f fd) (M : Free mg) (D_shown_by : Df P w K mg base (23 + 2 * d) "shown_by" ["web", "weights", "thing"] (spShownBy Ps d)) : FnOk P w K mg base CX0 (23 + 2 * d + 1) f fd ["_law_world_here", "_law_thing"] (spTold Ps d) := by
  obtain ⟨f_shown_by, fd_shown_by, G_shown_by, g_shown_by, k_shown_by, b_shown_by⟩ := D_shown_by
  refine F.ok sc_l_told (fun vs H Q E h => ?_) (fun cdv A outer s H vs Q E hr h => ?_)
  · obtain ⟨wv, v, n, ts, g, rfl, _⟩ := h
    rfl
  · obtain ⟨wv, v, n, ts, g, rfl, hW, ok, l120, hP, hT, q⟩ := h
    refine ⟨_, (pss_cons (ps_set (i := 2) sc_l_told.nd rfl (.inl rfl) (pe_call G_shown_by (hr.mono (by omega)) (by rfl) g_shown_by k_shown_by b_shown_by .nil pass0 (pa_cons (pe_slice sl_tupU (pv 0) po_none (po_some pe_int)) (pa_cons (pe_ix ix_tup (pv 0) pe_int (fun _ _ => rfl)) (pa_cons (pv 1) pa_nil)))))
      (pss_cons (ps_if (PW.pt (pw_or (pt_val (pe_callB call_isi (by rfl) M.isinstance (by decide +kernel) (pa_cons (pv 2) (pa_cons (pe_bltn (v := .ty "bool") (by rfl) M.bool (by decide +kernel) rfl) pa_nil)))) (pw_or1 (PW.pt (pw_and (pt_cmpR op_notN (pv 2) pe_non (nomark _)) (pw_and1 (pt_not (pt_val (pe_callB call_isi (by rfl) M.isinstance (by decide +kernel) (pa_cons (pv 2) (pa_cons (pe_bltn (v := .ty "int") (by rfl) M.int (by decide +kernel) rfl) pa_nil)))))))))))
        (pss_one (ps_ret pe_str))
        pss_nil)
      (pss_one (ps_ret (pv 2))))), ?_⟩
    obtain ⟨wa, tb, wt, us, rfl, hwa, htb, hpw, hwt⟩ := id hW.ex
    refine ⟨.ref wa, rfl, 2, rfl, wa, _, rfl, hwa, fun r H1 s1 hr1 => ?_⟩
    have hr1 : H1 r = some (.tup [.int n, .ref tb]) := hr1
    have hwa1 := s1 _ _ hwa
    have k1 := Kt.same hT s1
    have T1 : Tabs Ps H1 := k1.tab
    refine ⟨.ref wa, rfl, wa, _, 2, wt, rfl, rfl, SqT.of hwa1, rfl, v, rfl, .ref r, wt, v, n, ts, g, rfl, ⟨r, tb, us, rfl, hr1, s1 _ _ htb, ties_tk (Same.tk s1) hpw⟩, ok, l120, hwt.tk (Same.tk s1), hP.stay (.same s1), T1, fun H2 k2 => ?_⟩
    rw [shown_stay hP (.same s1)]
    have k02 := k1.trans k2
    cases eS : shownS (d + 1) H n ts (limW g ts.length) (rng ts.length) v with
    | none =>
      rw [eS] at q
      obtain ⟨t1, i1, j1⟩ := kn_bool (K := K) (H := H2) (v := .non) trivial
      refine ⟨.non, rfl, .non, _, t1, _, _, rfl, .ty "bool", i1, j1, _, rfl, ?_⟩
      refine ⟨.non, rfl, rfl, _, rfl, ?_⟩
      exact ⟨.non, rfl, q _ k02⟩
    | some k =>
      rw [eS] at q
      obtain ⟨t1, i1, j1⟩ := kn_bool (K := K) (H := H2) (v := .int k) trivial
      obtain ⟨t2, i2, j2⟩ := kn_int (K := K) (H := H2) (v := .int k) trivial
      refine ⟨.int k, rfl, .int k, _, t1, _, _, rfl, .ty "bool", i1, j1, _, rfl, ?_⟩
      refine ⟨.int k, rfl, rfl, _, rfl, ?_⟩
      refine ⟨.int k, rfl, .int k, _, t2, _, _, rfl, .ty "int", i2, j2, _, rfl, ?_⟩
      exact ⟨.int k, rfl, q _ k02⟩
end
/-! ### papers: webs and weights drawn -/
theorem nb120 {x : Int} (h0 : 0 ≤ x) (h1 : x ≤ 100000) : x.natAbs < 2 ^ 120 := by
  have : x.natAbs ≤ 100000 := by omega
  exact Nat.lt_of_le_of_lt this (by decide)
theorem pickP (v : Int) (h0 : 0 ≤ v) (h1 : v < 2) : ∃ fo : Bool, atI [V.str "friend", V.str "foe"] v = some (.str (kindS fo)) := by
  have h01 : v = 0 ∨ v = 1 := by omega
  rcases h01 with e | e <;> subst e
  · exact ⟨false, rfl⟩
  · exact ⟨true, rfl⟩
def spPWeb : Sp := fun vs H Q _ => ∃ (d c : Addr) (P M : Int), vs = [.ref d, .int P, .int M] ∧ Deck H d c ∧ 1 ≤ P ∧ P ≤ 40 ∧ 0 ≤ M ∧ M ≤ 120 ∧
  ∀ v n ts H', WebAt H' v n ts → WebOk n ts → n ≤ P → (ts.length : Int) ≤ M → Deck H' d c → Kp d c H H' → Q v H'
def spPWeights : Sp := fun vs H Q _ => ∃ (d c : Addr) (m : Nat), vs = [.ref d, .int m] ∧ Deck H d c ∧ m ≤ 120 ∧
  ∀ v g H', Wts H' v (rng m) g → (∀ x ∈ rng m, 1 ≤ g x) → Deck H' d c → Kp d c H H' → Q v H'
def spPWorld : Sp := fun vs H Q _ => ∃ (d c : Addr) (P M : Int), vs = [.ref d, .int P, .int M] ∧ Deck H d c ∧ 1 ≤ P ∧ P ≤ 40 ∧ 0 ≤ M ∧ M ≤ 120 ∧
  ∀ a n ts g H', WorldAt H' (.ref a) n ts g → WebOk n ts → n ≤ P → (ts.length : Int) ≤ M → (∀ x ∈ rng ts.length, 1 ≤ g x) → Deck H' d c → Kp d c H H' → Q (.ref a) H'
section
variable {P : Program} {w : World} {K : PySem.W.Frag} {mg : Str → Option Value} {base : Heap}
set_option maxHeartbeats 4000000 in
theorem ok_l_web {f : Addr} {fd : FuncData} (F : Fun K "_law_web" "_law_web" s_l_web f fd) (M : Free mg) (D_l_draw : Df P w K mg base 1 "_law_draw" ["_law_feed_here", "_law_most"] spDraw) : FnOk P w K mg base CX0 2 f fd ["_law_feed_here", "_law_places", "_law_most"] spPWeb := by
  obtain ⟨f_l_draw, fd_l_draw, G_l_draw, g_l_draw, k_l_draw, b_l_draw⟩ := D_l_draw
  refine F.ok sc_l_web (fun vs H Q E h => ?_) (fun cdv A outer s H vs Q E hr h => ?_)
  · obtain ⟨d, c, Pm, M0, rfl, _⟩ := h
    rfl
  · obtain ⟨d, c, Pm, M0, rfl, D, P1, P40, M00, M120, q⟩ := h
    refine ⟨_, (pss_cons (ps_set (i := 3) sc_l_web.nd rfl (.inl rfl) (pe_op op_add pe_int (pe_call G_l_draw (hr.mono (by decide)) (by rfl) g_l_draw k_l_draw b_l_draw .nil pass0 (pa_cons (pv 0) (pa_cons (pv 1) pa_nil)))))
      (pss_cons (ps_set (i := 4) sc_l_web.nd rfl (.inl rfl) (pe_lst pa_nil))
      (pss_cons (ps_for PassesOwn.never rfl (pi_range1 (by rfl) M.range (pa_cons (pe_op op_mul (pe_call G_l_draw (hr.mono (by decide)) (by rfl) g_l_draw k_l_draw b_l_draw .nil pass0 (pa_cons (pv 0) (pa_cons (pe_op op_add (pv 2) pe_int) pa_nil))) (pe_callTy call_int1 (by rfl) M.int (by decide +kernel) (pa_cons (pe_cmpR op_gt (pv 3) pe_int (nomark _)) pa_nil))) pa_nil)) (pg_name (i := 5) sc_l_web.nd rfl (.inl rfl))
        (pss_cons (ps_set (i := 6) sc_l_web.nd rfl (.inl rfl) (pe_call G_l_draw (hr.mono (by decide)) (by rfl) g_l_draw k_l_draw b_l_draw .nil pass0 (pa_cons (pv 0) (pa_cons (pv 3) pa_nil))))
        (pss_cons (ps_set (i := 7) sc_l_web.nd rfl (.inl rfl) (pe_op op_mod (pe_op op_add (pe_op op_add (pv 6) pe_int) (pe_call G_l_draw (hr.mono (by decide)) (by rfl) g_l_draw k_l_draw b_l_draw .nil pass0 (pa_cons (pv 0) (pa_cons (pe_op op_sub (pv 3) pe_int) pa_nil)))) (pv 3)))
        (Evl.pss_cut (ps_if (PW.pt (pw_and (pt_cmpR (op_neE hr.units0) (pv 4) (pe_lst pa_nil) (nomark _)) (pw_and1 (pt_cmpR op_eq (pe_call G_l_draw (hr.mono (by decide)) (by rfl) g_l_draw k_l_draw b_l_draw .nil pass0 (pa_cons (pv 0) (pa_cons pe_int pa_nil))) pe_int (nomark _)))))
          (pss_one (ps_asg (pe_slice sl_tupU (pe_ix ix_list (pv 4) (pe_call G_l_draw (hr.mono (by decide)) (by rfl) g_l_draw k_l_draw b_l_draw .nil pass0 (pa_cons (pv 0) (pa_cons (pe_callB call_len_seq (by rfl) M.len PySem.boot_len (pa_cons (pv 4) pa_nil)) pa_nil))) (fun _ _ => rfl)) po_none (po_some pe_int)) (pg_tup rfl (pgs_cons (pg_name (i := 7) sc_l_web.nd rfl (.inl rfl)) (pgs_cons (pg_name (i := 6) sc_l_web.nd rfl (.inl rfl)) pgs_nil)))))
          pss_nil)
        (pss_one (ps_expr (pe_bm PySem.F.plainAttrs_list PySem.F.slot_list_append PySem.F.type_list_append mt_append (pv 4) (pa_cons (pe_tup (pa_cons (pv 6) (pa_cons (pv 7) (pa_cons (pe_ix ix_list (pe_lst (pa_cons pe_str (pa_cons pe_str pa_nil))) (pe_call G_l_draw (hr.mono (by decide)) (by rfl) g_l_draw k_l_draw b_l_draw .nil pass0 (pa_cons (pv 0) (pa_cons pe_int pa_nil))) (fun _ _ => rfl)) pa_nil)))) pa_nil))))))))
      (pss_one (ps_ret (pe_tup (pa_cons (pv 3) (pa_cons (pe_callTy call_tuple_of (by rfl) M.tuple (by decide +kernel) (pa_cons (pv 4) pa_nil)) pa_nil)))))))), ?_⟩
    have dc := D.ne
    refine ⟨.ref d, rfl, .int Pm, rfl, d, c, Pm, rfl, D, by omega, nb120 (by omega) (by omega), fun v H1 v0 v1 D1 K1 => ⟨_, _, rfl, rfl, ?_⟩⟩
    obtain ⟨n, en, n1, nP⟩ : ∃ n : Int, n = 1 + v ∧ 1 ≤ n ∧ n ≤ Pm := ⟨_, rfl, by omega, by omega⟩
    rw [show ((fun i j : Int => V.int (i + j)) 1 v) = V.int n from congrArg V.int en.symm]
    refine ⟨Nat.zero_le _, fun L nL => ?_⟩
    have sL := same_new (o := .lst []) nL
    have hL2 : (upd H1 L (.lst [])) L = some (.lst []) := upd_same
    obtain ⟨Ld, Lc⟩ := D1.ned nL
    have D2 := D1.same sL
    have K2 := K1.trans (Same.kp sL)
    have nL0 := K1.free nL Ld Lc
    generalize upd H1 L (.lst []) = H2 at hL2 D2 K2
    clear sL nL
    refine ⟨.ref d, rfl, .int M0, rfl, _, _, rfl, rfl, d, c, _, rfl, D2, by omega, nb120 (by omega) (by omega), fun w H3 w0 w1 D3 K3 => ?_⟩
    refine ⟨.int n, rfl, _, _, rfl, rfl, .inr ⟨_, rfl, ?_⟩⟩
    obtain ⟨k, ek, kb, kn⟩ : ∃ k : Nat, w * (if decide (n > 1) = true then 1 else 0) = (k : Int) ∧ (k : Int) ≤ M0 ∧ (0 < k → 1 < n) := by
      cases hn : decide (n > 1) with
      | true => exact ⟨w.toNat, by rw [if_pos rfl]; omega, by omega, fun _ => of_decide_eq_true hn⟩
      | false => exact ⟨0, by rw [if_neg (by decide)]; omega, by omega, fun h => absurd h (Nat.lt_irrefl _)⟩
    refine ⟨_, _, rfl, rfl, .inl ⟨by omega, by omega⟩, k, congrArg (fun z => [V.int z]) ek, by omega, by omega, ?_⟩
    rw [Int.toNat_natCast]
    have hL3 := K3 _ _ Ld Lc hL2
    refine for_range (lo := 0) (n := k) (fun j σ' H' => ∃ (y5 y6 y7 : Option V) (vs : List V) (ts : List Tie), σ' = [some (.ref d), some (.int Pm), some (.int M0), some (.int n), some (.ref L), y5, y6, y7] ∧ H' L = some (.lst vs) ∧ Paired (TieV H') vs ts ∧ (∀ t ∈ ts, TieOk n t) ∧ ts.length = j ∧ Deck H' d c ∧ Kp d c H H') ⟨none, none, none, [], [], rfl, hL3, .nil, fun t h => (by cases h), rfl, D3, K2.trans K3⟩ ?_ ?_
    · clear hL2 D2 K2 hL3 D3 K3 D1 K1
      rintro j σ' H3 hj ⟨y5, y6, y7, vs, ts, rfl, hL, hv, okt, lt, D3, K3⟩
      have n2 : 1 < n := kn (by omega)
      have lv := Paired.length hv
      refine ⟨.ref d, rfl, .int n, rfl, d, c, n, rfl, D3, by omega, nb120 (by omega) (by omega), fun a H4 a0 a1 D4 K4 => ?_⟩
      refine ⟨.int a, rfl, _, _, rfl, rfl, .ref d, rfl, .int n, rfl, _, _, rfl, rfl, d, c, _, rfl, D4, by omega, nb120 (by omega) (by omega), fun b H5 b0 b1 D5 K5 => ⟨_, _, rfl, rfl, .int n, rfl, _, _, rfl, rfl, show (0 : Int) < n by omega, ?_⟩⟩
      have zr := mod_rng (a := a + 1 + b) (m := n) (by omega)
      have zn := other_ne a0 a1 b0 b1
      have hL5 := K5 _ _ Ld Lc (K4 _ _ Ld Lc hL)
      have hv5 := ties_tk (K5.tk D4) (ties_tk (K4.tk D3) hv)
      have K05 := (K3.trans K4).trans K5
      clear hL hv K3 K4 D3 D4 K5
      refine ⟨fun σ' H' => ∃ (y5 : Option V) (x y : Int), σ' = [some (.ref d), some (.int Pm), some (.int M0), some (.int n), some (.ref L), y5, some (.int x), some (.int y)] ∧ TieOk n ⟨x, y, false⟩ ∧ H' L = some (.lst vs) ∧ Paired (TieV H') vs ts ∧ Deck H' d c ∧ Kp d c H H', ?_, ?_⟩
      · refine ⟨.ref L, rfl, Nat.zero_le _, fun e ne => ?_⟩
        have s6 := same_new (o := .lst []) ne
        refine ⟨L, e, vs, rfl, rfl, SqL.of (s6 _ _ hL5), SqL.of upd_same, _, rfl, ?_⟩
        have D6 := D5.same s6
        have K06 := K05.trans (Same.kp s6)
        have hL6 := s6 _ _ hL5
        have hv6 := ties_tk (Same.tk s6) hv5
        generalize upd H5 e (.lst []) = H6 at D6 K06 hL6 hv6
        cases hemp : vs.isEmpty with
        | true => exact ⟨_, a, (a + 1 + b) % n, rfl, ⟨a0, a1, zr.1, zr.2, zn⟩, hL6, hv6, D6, K06⟩
        | false =>
          have lpos : 0 < vs.length := List.length_pos_iff.mpr fun h => by rw [h] at hemp; cases hemp
          refine ⟨.ref d, rfl, d, c, 4, rfl, D6, by decide, by decide, fun r H7 r0 r1 D7 K7 => ⟨rfl, _, rfl, ?_⟩⟩
          have hL7 := K7 _ _ Ld Lc hL6
          have hv7 := ties_tk (K7.tk D6) hv6
          refine ite2 (fun _ => ?_) (fun _ => ⟨_, a, (a + 1 + b) % n, rfl, ⟨a0, a1, zr.1, zr.2, zn⟩, hL7, hv7, D7, K06.trans K7⟩)
          refine ⟨.ref L, rfl, .ref d, rfl, .ref L, rfl, L, _, rfl, .inl (SqL.of hL7), d, c, _, rfl, D7, by omega, nb120 (by omega) (by omega), fun i H8 i0 i1 D8 K8 => ?_⟩
          have hL8 := K8 _ _ Ld Lc hL7
          have hv8 := ties_tk (K8.tk D7) hv7
          obtain ⟨u, eu, eu2⟩ := getI (xs := vs) i0 i1
          obtain ⟨t, et, tc, rfl, htc⟩ := Paired.at hv8 eu2
          have okt' := okt t (List.mem_of_getElem? et)
          refine ⟨L, vs, i, .ref tc, rfl, rfl, SqL.of hL8, eu, 2, rfl, tc, _, rfl, htc, fun r2 H9 s9 h9 => ?_⟩
          have h9 : H9 r2 = some (.tup [.int t.one, .int t.other]) := h9
          exact ⟨r2, _, rfl, SqT.of h9, rfl, _, _, rfl, _, _, rfl, rfl, _, t.other, t.one, rfl, ⟨okt'.2.2.1, okt'.2.2.2.1, okt'.1, okt'.2.1, okt'.2.2.2.2.symm⟩, s9 _ _ hL8, ties_tk (Same.tk s9) hv8, D8.same s9, ((K06.trans K7).trans K8).trans (Same.kp s9)⟩
      rintro σ' H6 ⟨y5, x, y, rfl, okt', hL6, hv6, D6, K6⟩
      refine ⟨.ref L, rfl, .inl ⟨rfl, _, SqL.of hL6⟩, .int x, rfl, .int y, rfl, by show 2 ≤ sizeLine; decide, fun p np => ?_⟩
      have s7 := same_new (o := .lst [.str "friend", .str "foe"]) np
      obtain ⟨pd, pc⟩ := D6.ned np
      have hp7 := upd_same (H := H6) (a := p) (o := .lst [.str "friend", .str "foe"])
      have D7 := D6.same s7
      have hL7 := s7 _ _ hL6
      have hv7 := ties_tk (Same.tk s7) hv6
      have K7 := K6.trans (Same.kp s7)
      generalize upd H6 p (.lst [.str "friend", .str "foe"]) = H7 at hp7 D7 hL7 hv7 K7
      refine ⟨.ref d, rfl, d, c, 2, rfl, D7, by decide, by decide, fun r H8 r0 r1 D8 K8 => ?_⟩
      obtain ⟨fo, ef⟩ := pickP r r0 r1
      have hL8 := K8 _ _ Ld Lc hL7
      have hv8 := ties_tk (K8.tk D7) hv7
      refine ⟨p, _, r, .str (kindS fo), rfl, rfl, SqL.of (K8 _ _ pd pc hp7), ef, by show 3 ≤ sizeLine; decide, fun cc ncc => ?_⟩
      have s9 := same_new (o := .tup [.int x, .int y, .str (kindS fo)]) ncc
      have h9 := upd_same (H := H8) (a := cc) (o := .tup [.int x, .int y, .str (kindS fo)])
      have D9 := D8.same s9
      have hL9 := s9 _ _ hL8
      have hv9 := ties_tk (Same.tk s9) hv8
      have K9 := (K7.trans K8).trans (Same.kp s9)
      generalize upd H8 cc (.tup [.int x, .int y, .str (kindS fo)]) = H9 at h9 D9 hL9 hv9 K9
      refine ⟨L, vs, _, rfl, rfl, hL9, small1000 (by omega), ?_⟩
      have tk := tk_lst (ys := vs ++ [.ref cc]) hL9
      exact ⟨_, _, _, vs ++ [.ref cc], ts ++ [⟨x, y, fo⟩], rfl, upd_same, Paired.snoc (ties_tk tk hv9) ⟨cc, rfl, tk _ _ h9⟩, fun t ht => (List.mem_append.mp ht).elim (okt t) fun h => by rw [List.mem_singleton.mp h]; exact okt', by rw [List.length_append, lt]; rfl, D9.mut Ld Lc, K9.mut nL0⟩
    · rintro σ' H4 ⟨y5, y6, y7, vs, ts, rfl, hL, hv, okt, lt, D4, K4⟩
      refine ⟨.int n, rfl, .ref L, rfl, L, vs, rfl, .inl ⟨SqL.of hL, fun e ne => ⟨by show 2 ≤ sizeLine; decide, fun a na => ?_⟩⟩⟩
      have s2 := (same_new (o := .tup vs) ne).trans (same_new (o := .tup [.int n, .ref e]) na)
      exact q _ n ts _ ⟨a, e, vs, rfl, upd_same, same_new na _ _ upd_same, ties_tk (Same.tk s2) hv⟩ ⟨n1, by omega, by omega, okt⟩ nP (by omega) (D4.same s2) (K4.trans (Same.kp s2))
end
/-! ### papers: weights, worlds -/
theorem pickW (x y z w r : Int) (w0 : 1 ≤ w) (w3 : w < 4) (r0 : 0 ≤ r) (r3 : r < 3) (hx : 0 ≤ x) (hy : 0 ≤ y) (hz : 0 ≤ z) : ∃ u : Int, atI [V.int x, V.int y, V.int z] (if r < w - 1 then r else w - 1) = some (.int u) ∧ 0 ≤ u := by
  have : (if r < w - 1 then r else w - 1) = 0 ∨ (if r < w - 1 then r else w - 1) = 1 ∨ (if r < w - 1 then r else w - 1) = 2 := by
    split <;> omega
  rcases this with e | e | e <;> rw [e]
  · exact ⟨x, rfl, hx⟩
  · exact ⟨y, rfl, hy⟩
  · exact ⟨z, rfl, hz⟩
theorem gW_pos {ws : List Int} (h : ∀ w ∈ ws, 1 ≤ w) {x : Int} (h0 : 0 ≤ x) (h1 : x < (ws.length : Int)) : 1 ≤ gW ws x := by
  have hl : x.toNat < ws.length := by omega
  unfold gW
  rw [List.getD_eq_getElem?_getD, List.getElem?_eq_getElem hl]
  exact h _ (List.getElem_mem hl)
section
variable {P : Program} {w : World} {K : PySem.W.Frag} {mg : Str → Option Value} {base : Heap}
set_option maxHeartbeats 4000000 in
theorem ok_l_weights {f : Addr} {fd : FuncData} (F : Fun K "_law_weights" "_law_weights" s_l_weights f fd) (M : Free mg) (m_min : mg "min" = none) (D_l_draw : Df P w K mg base 1 "_law_draw" ["_law_feed_here", "_law_most"] spDraw) : FnOk P w K mg base CX0 2 f fd ["_law_feed_here", "_law_many"] spPWeights := by
  obtain ⟨f_l_draw, fd_l_draw, G_l_draw, g_l_draw, k_l_draw, b_l_draw⟩ := D_l_draw
  refine F.ok sc_l_weights (fun vs H Q E h => ?_) (fun cdv A outer s H vs Q E hr h => ?_)
  · obtain ⟨d, c, m, rfl, _⟩ := h
    rfl
  · obtain ⟨d, c, m, rfl, D, m120, q⟩ := h
    refine ⟨_, (pss_cons (ps_set (i := 2) sc_l_weights.nd rfl (.inl rfl) (pe_call G_l_draw (hr.mono (by decide)) (by rfl) g_l_draw k_l_draw b_l_draw .nil pass0 (pa_cons (pv 0) (pa_cons pe_int pa_nil))))
      (pss_cons (ps_if (pt_cmpR op_eq (pv 2) pe_int (nomark _))
        (pss_one (ps_ret pe_non))
        pss_nil)
      (pss_cons (ps_set (i := 3) sc_l_weights.nd rfl (.inl rfl) (pe_lst pa_nil))
      (pss_cons (ps_for PassesOwn.never rfl (pi_range1 (by rfl) M.range (pa_cons (pv 1) pa_nil)) (pg_name (i := 4) sc_l_weights.nd rfl (.inl rfl))
        (pss_cons (ps_set (i := 5) sc_l_weights.nd rfl (.inl rfl) (pe_lst (pa_cons (pe_call G_l_draw (hr.mono (by decide)) (by rfl) g_l_draw k_l_draw b_l_draw .nil pass0 (pa_cons (pv 0) (pa_cons pe_int pa_nil))) (pa_cons (pe_call G_l_draw (hr.mono (by decide)) (by rfl) g_l_draw k_l_draw b_l_draw .nil pass0 (pa_cons (pv 0) (pa_cons pe_int pa_nil))) (pa_cons (pe_op op_sub (pe_op op_sub (pe_op op_pow pe_int pe_int) pe_int) (pe_call G_l_draw (hr.mono (by decide)) (by rfl) g_l_draw k_l_draw b_l_draw .nil pass0 (pa_cons (pv 0) (pa_cons pe_int pa_nil)))) pa_nil)))))
        (pss_one (ps_expr (pe_bm PySem.F.plainAttrs_list PySem.F.slot_list_append PySem.F.type_list_append mt_append (pv 3) (pa_cons (pe_op op_add pe_int (pe_ix ix_list (pv 5) (pe_callB (call_min2 rfl) (by rfl) m_min (by decide +kernel) (pa_cons (pe_op op_sub (pv 2) pe_int) (pa_cons (pe_call G_l_draw (hr.mono (by decide)) (by rfl) g_l_draw k_l_draw b_l_draw .nil pass0 (pa_cons (pv 0) (pa_cons pe_int pa_nil))) pa_nil))) (fun _ _ => rfl))) pa_nil))))))
      (pss_one (ps_ret (pe_callTy call_tuple_of (by rfl) M.tuple (by decide +kernel) (pa_cons (pv 3) pa_nil)))))))), ?_⟩
    refine ⟨.ref d, rfl, d, c, 4, rfl, D, by decide, by decide, fun w H1 w0 w1 D1 K1 => ?_⟩
    refine ⟨.int w, rfl, rfl, _, rfl, ?_⟩
    refine ite2 (fun _ => q .non (fun _ => 1) _ (.inl ⟨rfl, fun _ _ => rfl⟩) (fun _ _ => Int.le_refl _) D1 K1) (fun hw => ?_)
    have w1' : 1 ≤ w := by
      have : w ≠ 0 := fun z => hw (by rw [z]; rfl)
      omega
    refine ⟨Nat.zero_le _, fun L nL => ?_⟩
    have sL := same_new (o := .lst []) nL
    have hL2 : (upd H1 L (.lst [])) L = some (.lst (([] : List Int).map V.int)) := upd_same
    obtain ⟨Ld, Lc⟩ := D1.ned nL
    have D2 := D1.same sL
    have K2 := K1.trans (Same.kp sL)
    have nL0 := K1.free nL Ld Lc
    generalize upd H1 L (.lst []) = H2 at hL2 D2 K2
    clear sL nL
    refine ⟨.int m, rfl, m, rfl, by omega, by omega, ?_⟩
    rw [Int.toNat_natCast]
    refine for_range (lo := 0) (n := m) (fun j σ' H' => ∃ (y4 y5 : Option V) (ws : List Int), σ' = [some (.ref d), some (.int m), some (.int w), some (.ref L), y4, y5] ∧ H' L = some (.lst (ws.map V.int)) ∧ ws.length = j ∧ (∀ x ∈ ws, 1 ≤ x) ∧ Deck H' d c ∧ Kp d c H H') ⟨none, none, [], rfl, hL2, rfl, fun x h => (by cases h), D2, K2⟩ ?_ ?_
    · clear hL2 D2 K2 D1 K1
      rintro j σ' H3 hj ⟨y4, y5, ws, rfl, hL, lw, pw, D3, K3⟩
      refine ⟨.ref d, rfl, d, c, 3, rfl, D3, by decide, by decide, fun x H4 x0 x1 D4 K4 => ⟨.ref d, rfl, d, c, 1000, rfl, D4, by decide, by decide, fun y H5 y0 y1 D5 K5 => ?_⟩⟩
      refine ⟨10, 30, rfl, rfl, ⟨by decide, by decide, by decide⟩, _, _, rfl, rfl, .ref d, rfl, d, c, 1000, rfl, D5, by decide, by decide, fun z H6 z0 z1 D6 K6 => ⟨_, _, rfl, rfl, by show 3 ≤ sizeLine; decide, fun p np => ?_⟩⟩
      obtain ⟨pd, pc⟩ := D6.ned np
      have s7 := same_new (o := .lst [.int x, .int y, .int ((10 : Int) ^ (30 : Int).toNat - 1 - z)]) np
      have hp7 := upd_same (H := H6) (a := p) (o := .lst [.int x, .int y, .int ((10 : Int) ^ (30 : Int).toNat - 1 - z)])
      have D7 := D6.same s7
      have hL7 := s7 _ _ (K6 _ _ Ld Lc (K5 _ _ Ld Lc (K4 _ _ Ld Lc hL)))
      have K7 := (((K3.trans K4).trans K5).trans K6).trans (Same.kp s7)
      refine ⟨.ref L, rfl, .inl ⟨rfl, _, SqL.of hL7⟩, .ref p, rfl, .int w, rfl, _, _, rfl, rfl, .ref d, rfl, d, c, 3, rfl, D7, by decide, by decide, fun r H8 r0 r1 D8 K8 => ?_⟩
      have big : (0 : Int) ≤ (10 : Int) ^ (30 : Int).toNat - 1 - z := by
        have : (1001 : Int) ≤ (10 : Int) ^ (30 : Int).toNat := by decide
        omega
      obtain ⟨u, eu, u0⟩ := pickW x y _ w r w1' w1 r0 r1 x0 y0 big
      refine ⟨_, _, rfl, p, _, _, .int u, rfl, rfl, SqL.of (K8 _ _ pd pc hp7), eu, _, _, rfl, rfl, L, _, _, rfl, rfl, K8 _ _ Ld Lc hL7, by rw [List.length_map]; exact small1000 (by omega), ?_⟩
      refine ⟨_, _, ws ++ [1 + u], rfl, by rw [upd_same, List.map_append]; rfl, by rw [List.length_append, lw]; rfl, fun v hv => (List.mem_append.mp hv).elim (pw v) fun h => by rw [List.mem_singleton.mp h]; omega, D8.mut Ld Lc, (K7.trans K8).mut nL0⟩
    · rintro σ' H3 ⟨y4, y5, ws, rfl, hL, lw, pw, D3, K3⟩
      refine ⟨.ref L, rfl, L, _, rfl, .inl ⟨SqL.of hL, fun a na => ?_⟩⟩
      have sa := same_new (o := .tup (ws.map V.int)) na
      exact q _ (gW ws) _ (.inr ⟨a, ws, rfl, upd_same, fun x hx => ⟨by have := mem_rng.mp hx; omega, rfl⟩⟩) (fun x hx => by have := mem_rng.mp hx; exact gW_pos pw this.1 (by omega)) (D3.same sa) (K3.trans (Same.kp sa))
set_option maxHeartbeats 4000000 in
theorem ok_l_world {f : Addr} {fd : FuncData} (F : Fun K "_law_world" "_law_world" s_l_world f fd) (M : Free mg) (D_l_web : Df P w K mg base 2 "_law_web" ["_law_feed_here", "_law_places", "_law_most"] spPWeb) (D_l_weights : Df P w K mg base 2 "_law_weights" ["_law_feed_here", "_law_many"] spPWeights) : FnOk P w K mg base CX0 3 f fd ["_law_feed_here", "_law_places", "_law_most"] spPWorld := by
  obtain ⟨f_l_web, fd_l_web, G_l_web, g_l_web, k_l_web, b_l_web⟩ := D_l_web
  obtain ⟨f_l_weights, fd_l_weights, G_l_weights, g_l_weights, k_l_weights, b_l_weights⟩ := D_l_weights
  refine F.ok sc_l_world (fun vs H Q E h => ?_) (fun cdv A outer s H vs Q E hr h => ?_)
  · obtain ⟨d, c, Pm, M0, rfl, _⟩ := h
    rfl
  · obtain ⟨d, c, Pm, M0, rfl, D, P1, P40, M00, M120, q⟩ := h
    refine ⟨_, (pss_cons (ps_set (i := 3) sc_l_world.nd rfl (.inl rfl) (pe_call G_l_web (hr.mono (by decide)) (by rfl) g_l_web k_l_web b_l_web .nil pass0 (pa_cons (pv 0) (pa_cons (pv 1) (pa_cons (pv 2) pa_nil)))))
      (pss_one (ps_ret (pe_tup (pa_cons (pe_ix ix_tup (pv 3) pe_int (fun _ _ => rfl)) (pa_cons (pe_ix ix_tup (pv 3) pe_int (fun _ _ => rfl)) (pa_cons (pe_call G_l_weights (hr.mono (by decide)) (by rfl) g_l_weights k_l_weights b_l_weights .nil pass0 (pa_cons (pv 0) (pa_cons (pe_callB call_len_seq (by rfl) M.len PySem.boot_len (pa_cons (pe_ix ix_tup (pv 3) pe_int (fun _ _ => rfl)) pa_nil)) pa_nil))) pa_nil))))))), ?_⟩
    refine ⟨.ref d, rfl, .int Pm, rfl, .int M0, rfl, d, c, Pm, M0, rfl, D, P1, P40, M00, M120, fun v n ts H1 hW ok nP lM D1 K1 => ?_⟩
    obtain ⟨wa, tb, us, rfl, hwa, htb, hp⟩ := hW
    have lus : us.length = ts.length := Paired.length hp
    refine ⟨.ref wa, rfl, wa, _, 0, .int n, rfl, rfl, SqT.of hwa, rfl, .ref wa, rfl, wa, _, 1, .ref tb, rfl, rfl, SqT.of hwa, rfl, .ref d, rfl, .ref wa, rfl, wa, _, 1, .ref tb, rfl, rfl, SqT.of hwa, rfl, tb, us, rfl, .inr (SqT.of htb), d, c, us.length, rfl, D1, by omega, fun wt g H2 hwt hg D2 K2 => ⟨by show 3 ≤ sizeLine; decide, fun a na => ?_⟩⟩
    rw [lus] at hwt hg
    have sa := same_new (o := .tup [.int n, .ref tb, wt]) na
    have tk := (K2.tk D1).trans (Same.tk sa)
    exact q a n ts g _ ⟨a, tb, wt, us, rfl, upd_same, tk _ _ htb, ties_tk tk hp, hwt.tk (Same.tk sa)⟩ ok nP lM hg (D2.same sa) ((K1.trans K2).trans (Same.kp sa))
end
/-! ### papers: a way between two places -/
structure WayR (ts : List Tie) (nums : List Int) (n b e : Int) (ps es : List Int) : Prop where
  len : ps.length = es.length + 1
  hd : ps[0]? = some b
  last : ps[es.length]? = some e
  nd : ps.Nodup
  few : ps.length ≤ 41
  rng : ∀ p ∈ ps, 0 ≤ p ∧ p < n
  st : ∀ (k : Nat) (t x y : Int), es[k]? = some t → ps[k]? = some x → ps[k + 1]? = some y → t ∈ nums ∧ joinB (tieAt ts t) x y = true
abbrev CmL := List (Int × Option (Int × Int))
structure Cm (ts : List Tie) (nums : List Int) (b n : Int) (cm : CmL) : Prop where
  hd : cm[0]? = some (b, none)
  nd : (cm.map (·.1)).Nodup
  rng : ∀ c ∈ cm, 0 ≤ c.1 ∧ c.1 < n
  st : ∀ (i : Nat) (q : Int) (o : Option (Int × Int)), 0 < i → cm[i]? = some (q, o) → ∃ (p t : Int) (i' : Nat) (o' : Option (Int × Int)), o = some (p, t) ∧ i' < i ∧ cm[i']? = some (p, o') ∧ t ∈ nums ∧ joinB (tieAt ts t) p q = true
theorem Cm.start {ts : List Tie} {nums : List Int} {b n : Int} (h : 0 ≤ b ∧ b < n) : Cm ts nums b n [(b, none)] := ⟨rfl, by simp, fun c hc => by rw [List.mem_singleton.mp hc]; exact h, fun i q o h0 e => by
  have := (List.getElem?_eq_some_iff.mp e).1
  simp only [List.length_singleton] at this
  omega⟩
theorem Cm.snoc {ts : List Tie} {nums : List Int} {b n : Int} {cm : CmL} (h : Cm ts nums b n cm) {q p t : Int} {i : Nat} {o : Option (Int × Int)} (hq : q ∉ cm.map (·.1)) (r : 0 ≤ q ∧ q < n) (ei : cm[i]? = some (p, o)) (ht : t ∈ nums) (j : joinB (tieAt ts t) p q = true) : Cm ts nums b n (cm ++ [(q, some (p, t))]) := by
  have lpos := (List.getElem?_eq_some_iff.mp h.hd).1
  have il := (List.getElem?_eq_some_iff.mp ei).1
  refine ⟨by rw [List.getElem?_append_left lpos]; exact h.hd, ?_, fun c hc => ?_, fun k x o' k0 e => ?_⟩
  · rw [List.map_append]
    exact List.nodup_append.mpr ⟨h.nd, by simp, fun a ha b hb z => hq (by rw [List.map_singleton, List.mem_singleton] at hb; rw [hb] at z; have z : a = q := z; exact z ▸ ha)⟩
  · rcases List.mem_append.mp hc with z | z
    · exact h.rng c z
    · rw [List.mem_singleton.mp z]
      exact r
  · by_cases kl : k < cm.length
    · rw [List.getElem?_append_left kl] at e
      obtain ⟨p', t', i', o'', h1, h2, h3, h4, h5⟩ := h.st k x o' k0 e
      exact ⟨p', t', i', o'', h1, h2, by rw [List.getElem?_append_left (by omega)]; exact h3, h4, h5⟩
    · have := (List.getElem?_eq_some_iff.mp e).1
      rw [List.length_append, List.length_singleton] at this
      rw [List.getElem?_append_right (by omega), show k - cm.length = 0 by omega] at e
      cases e
      exact ⟨p, t, i, o, rfl, by omega, by rw [List.getElem?_append_left il]; exact ei, ht, j⟩
def CmV (H : Hp) (kv : Key × V) (c : Int × Option (Int × Int)) : Prop := kv.1 = Sum.inl c.1 ∧ match c.2 with
  | none => kv.2 = .non
  | some (p, t) => ∃ a, kv.2 = .ref a ∧ H a = some (.tup [.int p, .int t])
theorem CmV.tk {H H' : Hp} (k : Tk H H') {kv : Key × V} {c : Int × Option (Int × Int)} (h : CmV H kv c) : CmV H' kv c := by
  obtain ⟨q, o⟩ := c
  cases o with
  | none => exact h
  | some x =>
    obtain ⟨h1, a, h2, h3⟩ := h
    exact ⟨h1, a, h2, k _ _ h3⟩
theorem cm_tk {H H' : Hp} (k : Tk H H') {kvs : List (Key × V)} {cm : CmL} (h : Paired (CmV H) kvs cm) : Paired (CmV H') kvs cm := Paired.mono (fun _ _ x => x.tk k) h
theorem cm_val {H : Hp} : ∀ {kvs : List (Key × V)} {cm : CmL}, Paired (CmV H) kvs cm → (cm.map (·.1)).Nodup → ∀ (i : Nat) (q : Int) (o : Option (Int × Int)), cm[i]? = some (q, o) → ∃ v, valV kvs (Sum.inl q) = some v ∧ match o with
    | none => v = .non
    | some (p, t) => ∃ a, v = .ref a ∧ H a = some (.tup [.int p, .int t])
  | _, _, .nil, _, i, _, _, e => by simp at e
  | kv :: kvs, c :: cm, .cons h t, nd, i, q, o, e => by
    rw [List.map_cons] at nd
    have nd' := List.nodup_cons.mp nd
    cases i with
    | zero =>
      cases e
      exact ⟨kv.2, valV_pos (p := kv) h.1, h.2⟩
    | succ i =>
      have e : cm[i]? = some (q, o) := by simpa using e
      have ne : c.1 ≠ q := fun z => nd'.1 (by rw [z]; exact List.mem_map.mpr ⟨_, List.mem_of_getElem? e, rfl⟩)
      obtain ⟨v, h1, h2⟩ := cm_val t nd'.2 i q o e
      refine ⟨v, ?_, h2⟩
      rw [valV_neg]
      · exact h1
      · rw [h.1]
        exact fun z => ne (Sum.inl.inj z)
theorem cm_none {H : Hp} {q : Int} : ∀ {kvs : List (Key × V)} {cm : CmL}, Paired (CmV H) kvs cm → q ∉ cm.map (·.1) → valV kvs (Sum.inl q) = none
  | _, _, .nil, _ => rfl
  | kv :: kvs, c :: cm, .cons h t, no => by
    rw [List.map_cons, List.mem_cons, not_or] at no
    rw [valV_neg]
    · exact cm_none t no.2
    · rw [h.1]
      exact fun z => no.1 (Sum.inl.inj z).symm
theorem cm_some {H : Hp} {q : Int} {kvs : List (Key × V)} {cm : CmL} (h : Paired (CmV H) kvs cm) (nd : (cm.map (·.1)).Nodup) : (valV kvs (Sum.inl q)).isSome = decide (q ∈ cm.map (·.1)) := by
  by_cases hq : q ∈ cm.map (·.1)
  · obtain ⟨c, hc, rfl⟩ := List.mem_map.mp hq
    obtain ⟨i, hi⟩ := List.getElem?_of_mem hc
    obtain ⟨v, h1, _⟩ := cm_val h nd i c.1 c.2 hi
    rw [h1, decide_eq_true hq]
    rfl
  · rw [cm_none h hq, decide_eq_false hq]
    rfl
theorem cm_put {H : Hp} {q : Int} {v : V} {kvs : List (Key × V)} {cm : CmL} (h : Paired (CmV H) kvs cm) (hq : q ∉ cm.map (·.1)) : putK kvs (Sum.inl q) v = kvs ++ [(Sum.inl q, v)] := by
  unfold putK
  rw [valV_any, cm_none h hq, if_neg (by simp)]
/-- a web whose ties may join a place with itself -/
structure WebLo (n : Int) (ts : List Tie) : Prop where
  lo : 1 ≤ n
  hi : n ≤ 40
  few : ts.length ≤ 120
  ok : ∀ t ∈ ts, 0 ≤ t.one ∧ t.one < n ∧ 0 ≤ t.other ∧ t.other < n ∧ True
theorem WebOk.low {n : Int} {ts : List Tie} (h : WebOk n ts) : WebLo n ts := ⟨h.lo, h.hi, h.few, fun t ht => by
  have := h.ok t ht
  exact ⟨this.1, this.2.1, this.2.2.1, this.2.2.2.1, trivial⟩⟩
def spPWay : Sp := fun vs H Q _ => ∃ (tb nl : Addr) (us : List V) (ts : List Tie) (nums : List Int) (b e n : Int), vs = [.ref tb, .ref nl, .int b, .int e] ∧ H tb = some (.tup us) ∧ Paired (TieV H) us ts ∧ WebLo n ts ∧ H nl = some (.lst (nums.map V.int)) ∧ (∀ x ∈ nums, 0 ≤ x ∧ x < (ts.length : Int)) ∧ (0 ≤ b ∧ b < n) ∧ (0 ≤ e ∧ e < n) ∧
  (∀ H', Same H H' → Q .non H') ∧ ∀ r pl el ps es H', Same H H' → H' r = some (.tup [.ref pl, .ref el]) → H' pl = some (.lst (ps.map V.int)) → H' el = some (.lst (es.map V.int)) → WayR ts nums n b e ps es → H pl = none → H el = none → Q (.ref r) H'
section
variable {P : Program} {w : World} {K : PySem.W.Frag} {mg : Str → Option Value} {base : Heap}
set_option maxHeartbeats 8000000 in
theorem ok_l_way {f : Addr} {fd : FuncData} (F : Fun K "_law_way" "_law_way" s_l_way f fd) (M : Free mg) : FnOk P w K mg base CX0 1 f fd ["_law_ties", "_law_numbers", "_law_begin", "_law_end"] spPWay := by
  refine F.ok sc_l_way (fun vs H Q E h => ?_) (fun cdv A outer s H vs Q E hr h => ?_)
  · obtain ⟨tb, nl, us, ts, nums, b0, e0, n, rfl, _⟩ := h
    rfl
  · obtain ⟨tb, nl, us, ts, nums, b0, e0, n, rfl, htb, hpw, ok, hnl, hnum, rb, re, qn, qs⟩ := h
    have hu := room1 hr
    refine ⟨_, (pss_cons (ps_set (i := 4) sc_l_way.nd rfl (.inl rfl) (pe_disp (pps_cons (pv 2) pe_non pps_nil) (by rfl) (by rfl) (fun z => by cases z) (by decide)))
      (pss_cons (ps_set (i := 5) sc_l_way.nd rfl (.inl rfl) (pe_lst (pa_cons (pv 2) pa_nil)))
      (pss_cons (ps_set (i := 6) sc_l_way.nd rfl (.inl rfl) pe_int)
      (Evl.pss_cut (ps_while PassesOwn.never (PW.pt (pw_and (pt_cmpR op_lt (pv 6) (pe_callB call_len_seq (by rfl) M.len PySem.boot_len (pa_cons (pv 5) pa_nil)) (nomark _)) (pw_and1 (pt_cmp (pc_dnotin hu (pv 3) (pv 4))))))
        (pss_cons (ps_for PassesOwn.never rfl (pi_list (pv 1)) (pg_name (i := 7) sc_l_way.nd rfl (.inl rfl))
          (pss_cons (ps_asg (pe_slice sl_tupU (pe_ix ix_tup (pv 0) (pv 7) (fun _ _ => rfl)) po_none (po_some pe_int)) (pg_tup rfl (pgs_cons (pg_name (i := 8) sc_l_way.nd rfl (.inl rfl)) (pgs_cons (pg_name (i := 9) sc_l_way.nd rfl (.inl rfl)) pgs_nil))))
          (Evl.pss_cut (ps_if (pt_cmpR op_eq (pv 9) (pe_ix ix_list (pv 5) (pv 6) (fun _ _ => rfl)) (nomark _))
            (pss_one (ps_par (i := 8) (j := 9) rfl sc_l_way.nd rfl rfl (by decide) rfl rfl (pa_cons (pv 9) (pa_cons (pv 8) pa_nil)) rfl))
            pss_nil)
          (pss_one (ps_if (PW.pt (pw_and (pt_cmpR op_eq (pv 8) (pe_ix ix_list (pv 5) (pv 6) (fun _ _ => rfl)) (nomark _)) (pw_and1 (pt_cmp (pc_dnotin hu (pv 9) (pv 4))))))
            (pss_cons (ps_dput hu (pv 4) (pv 9) (pe_tup (pa_cons (pv 8) (pa_cons (pv 7) pa_nil))) rfl)
            (pss_one (ps_expr (pe_bm PySem.F.plainAttrs_list PySem.F.slot_list_append PySem.F.type_list_append mt_append (pv 5) (pa_cons (pv 9) pa_nil)))))
            pss_nil)))))
        (pss_one (ps_set (i := 6) sc_l_way.nd rfl (.inl rfl) (pe_op op_add (pv 6) pe_int)))))
      (pss_cons (ps_if (pt_cmp (pc_dnotin hu (pv 3) (pv 4)))
        (pss_one (ps_ret pe_non))
        pss_nil)
      (pss_cons (ps_set (i := 10) sc_l_way.nd rfl (.inl rfl) (pe_lst (pa_cons (pv 3) pa_nil)))
      (pss_cons (ps_set (i := 11) sc_l_way.nd rfl (.inl rfl) (pe_lst pa_nil))
      (pss_cons (ps_while PassesOwn.never (pt_cmpR op_notN (pe_dget hu (pv 4) (pe_ix ix_list (pv 10) pe_int (fun _ _ => rfl)) (fun _ _ => rfl)) pe_non (nomark _))
        (pss_cons (ps_asg (pe_dget hu (pv 4) (pe_ix ix_list (pv 10) pe_int (fun _ _ => rfl)) (fun _ _ => rfl)) (pg_tup rfl (pgs_cons (pg_name (i := 12) sc_l_way.nd rfl (.inl rfl)) (pgs_cons (pg_name (i := 7) sc_l_way.nd rfl (.inl rfl)) pgs_nil))))
        (pss_cons (ps_expr (pe_bm PySem.F.plainAttrs_list PySem.F.slot_list_insert PySem.F.type_list_insert mt_insert (pv 10) (pa_cons pe_int (pa_cons (pv 12) pa_nil))))
        (pss_one (ps_expr (pe_bm PySem.F.plainAttrs_list PySem.F.slot_list_insert PySem.F.type_list_insert mt_insert (pv 11) (pa_cons pe_int (pa_cons (pv 7) pa_nil))))))))
      (pss_one (ps_ret (pe_tup (pa_cons (pv 10) (pa_cons (pv 11) pa_nil))))))))))))), ?_⟩
    have few := ok.few
    have n40 := ok.hi
    refine fun D nD => ⟨.int b0, rfl, ?_⟩
    have sD := same_new (o := .dK []) nD
    refine ⟨upd_same, [(Sum.inl b0, .non)], rfl, by show 1 ≤ 15; decide, ?_⟩
    have hD0 : (upd (upd H D (.dK [])) D (.dK (mergeK [] [(Sum.inl b0, V.non)]))) D = some (.dK [(Sum.inl b0, .non)]) := upd_same
    have s0 : Same H (upd (upd H D (.dK [])) D (.dK (mergeK [] [(Sum.inl b0, V.non)]))) := Same.mutD sD nD
    generalize upd (upd H D (.dK [])) D (.dK (mergeK [] [(Sum.inl b0, V.non)])) = H1 at hD0 s0
    refine ⟨.int b0, rfl, by show 1 ≤ sizeLine; decide, fun L nL => ?_⟩
    have sL := same_new (o := .lst [.int b0]) nL
    have hL1 : (upd H1 L (.lst [.int b0])) L = some (.lst ((([(b0, none)] : CmL).map (·.1)).map V.int)) := upd_same
    have hD1 := sL _ _ hD0
    have DL : D ≠ L := ne_of_none hD0 nL
    have nL0 := s0.free nL
    have s1 := s0.trans sL
    generalize upd H1 L (.lst [.int b0]) = H2 at sL hL1 hD1 s1
    clear s0 hD0 sL nL sD
    refine ⟨fun σ' H' => ∃ (z : Int) (y7 y8 y9 : Option V) (kvs : List (Key × V)) (cm : CmL), σ' = [some (.ref tb), some (.ref nl), some (.int b0), some (.int e0), some (.ref D), some (.ref L), some (.int z), y7, y8, y9, none, none, none] ∧ H' D = some (.dK kvs) ∧ Paired (CmV H') kvs cm ∧ Cm ts nums b0 n cm ∧ Same H H', ?_, ?_⟩
    · refine ⟨fun m σ' H' => ∃ (z : Nat) (y7 y8 y9 : Option V) (kvs : List (Key × V)) (cm : CmL), σ' = [some (.ref tb), some (.ref nl), some (.int b0), some (.int e0), some (.ref D), some (.ref L), some (.int z), y7, y8, y9, none, none, none] ∧ H' D = some (.dK kvs) ∧ H' L = some (.lst ((cm.map (·.1)).map V.int)) ∧ Paired (CmV H') kvs cm ∧ Cm ts nums b0 n cm ∧ Same H H' ∧ m = 41 - z, ⟨41, 0, none, none, none, _, [(b0, none)], rfl, hD1, hL1, .cons ⟨rfl, rfl⟩ .nil, Cm.start rb, s1, rfl⟩, ?_⟩
      clear hD1 hL1 s1
      rintro m σ' H3 ⟨z, y7, y8, y9, kvs, cm, rfl, hD, hL, hk, C, s3, rfl⟩
      have lcm : (cm.map (·.1)).length ≤ n.toNat := pigeon49 (m := n.toNat) _ C.nd fun x hx => by
        obtain ⟨c, hc, rfl⟩ := List.mem_map.mp hx
        have := C.rng c hc
        omega
      rw [List.length_map] at lcm
      refine ⟨.int z, rfl, .ref L, rfl, L, _, rfl, .inl (SqL.of hL), _, _, rfl, rfl, _, rfl, ?_⟩
      rw [List.length_map, List.length_map]
      cases hz : decide ((z : Int) < (cm.length : Int)) with
      | false => exact ⟨_, _, _, _, kvs, cm, rfl, hD, hk, C, s3⟩
      | true =>
      have hz := of_decide_eq_true hz
      have zl : z < cm.length := by omega
      refine ⟨.int e0, rfl, .ref D, rfl, D, _, rfl, DGet.k (k := Sum.inl e0) hD, _, rfl, ?_⟩
      rw [cm_some hk C.nd]
      cases he : decide (e0 ∈ cm.map (·.1)) with
      | true => exact ⟨_, _, _, _, kvs, cm, rfl, hD, hk, C, s3⟩
      | false =>
      refine ⟨_, fun _ _ h => h, ?_⟩
      obtain ⟨cz, ecz⟩ : ∃ c, cm[z]? = some c := ⟨_, List.getElem?_eq_getElem zl⟩
      refine ⟨.ref nl, rfl, nl, rfl, ⟨_, SqL.of (s3 _ _ hnl)⟩, ?_⟩
      refine for_list (xs := nums.map V.int) (fun j σ' H' => ∃ (y7 y8 y9 : Option V) (kvs : List (Key × V)) (cm : CmL), σ' = [some (.ref tb), some (.ref nl), some (.int b0), some (.int e0), some (.ref D), some (.ref L), some (.int z), y7, y8, y9, none, none, none] ∧ H' D = some (.dK kvs) ∧ H' L = some (.lst ((cm.map (·.1)).map V.int)) ∧ Paired (CmV H') kvs cm ∧ Cm ts nums b0 n cm ∧ cm[z]? = some cz ∧ Same H H') ⟨_, _, _, kvs, cm, rfl, hD, hL, hk, C, ecz, s3⟩ (fun j σ' H' _ h => by
        obtain ⟨_, _, _, _, _, _, _, _, _, _, _, s⟩ := h
        exact SqL.of (s _ _ hnl)) ?_ ?_
      · clear hD hL hk C ecz s3 lcm hz zl he
        rintro j x σ' H4 ex ⟨y7, y8, y9, kvs, cm, rfl, hD, hL, hk, C, ecz, s4⟩
        rw [List.getElem?_map] at ex
        obtain ⟨t, et, rfl⟩ := Option.map_eq_some_iff.mp ex
        have htm := List.mem_of_getElem? et
        have tr := hnum t htm
        obtain ⟨u, eu, tc, rfl, htc⟩ := Paired.at' hpw (tieAt_get tr.1 tr.2)
        have okt := ok.ok _ (List.mem_of_getElem? (tieAt_get tr.1 tr.2))
        have lcm : (cm.map (·.1)).length ≤ n.toNat := pigeon49 (m := n.toNat) _ C.nd fun x hx => by
          obtain ⟨c, hc, rfl⟩ := List.mem_map.mp hx
          have := C.rng c hc
          omega
        rw [List.length_map] at lcm
        have lkv : kvs.length = cm.length := Paired.length hk
        refine ⟨.ref tb, rfl, .int t, rfl, tb, us, t, .ref tc, rfl, rfl, SqT.of (s4 _ _ htb), atI_of tr.1 eu, 2, rfl, tc, _, rfl, s4 _ _ htc, fun r H5 s5 h5 => ?_⟩
        have h5 : H5 r = some (.tup [.int (tieAt ts t).one, .int (tieAt ts t).other]) := h5
        have s05 := s4.trans s5
        have hD5 := s5 _ _ hD
        have hL5 := s5 _ _ hL
        have hk5 := cm_tk (Same.tk s5) hk
        refine ⟨r, _, rfl, SqT.of h5, rfl, _, _, rfl, _, _, rfl, rfl, ?_⟩
        clear hD hL hk s4
        have gz : ((cm.map (·.1)).map V.int)[z]? = some (.int cz.1) := by rw [List.getElem?_map, List.getElem?_map, ecz]; rfl
        refine ⟨fun σ' H' => ∃ p q : Int, σ' = [some (.ref tb), some (.ref nl), some (.int b0), some (.int e0), some (.ref D), some (.ref L), some (.int z), some (.int t), some (.int p), some (.int q), none, none, none] ∧ joinB (tieAt ts t) p q = true ∧ (0 ≤ q ∧ q < n) ∧ H' = H5, ?_, ?_⟩
        · refine ⟨.int (tieAt ts t).other, rfl, .ref L, rfl, .int z, rfl, L, _, z, .int cz.1, rfl, rfl, SqL.of hL5, atI_nat gz, rfl, _, rfl, ?_⟩
          refine ite2 (fun _ => ?_) (fun _ => ?_)
          · exact ⟨.int (tieAt ts t).other, rfl, .int (tieAt ts t).one, rfl, _, _, rfl, (tieAt ts t).other, (tieAt ts t).one, rfl, by unfold joinB; simp, ⟨okt.1, okt.2.1⟩, rfl⟩
          · exact ⟨(tieAt ts t).one, (tieAt ts t).other, rfl, by unfold joinB; simp, ⟨okt.2.2.1, okt.2.2.2.1⟩, rfl⟩
        rintro σ' H' ⟨p, q0, rfl, hj, rq, rfl⟩
        refine ⟨.int p, rfl, .ref L, rfl, .int z, rfl, L, _, z, .int cz.1, rfl, rfl, SqL.of hL5, atI_nat gz, rfl, _, rfl, ?_⟩
        cases hp : decide (V.int p = V.int cz.1) with
        | false => exact ⟨_, _, _, kvs, cm, rfl, hD5, hL5, hk5, C, ecz, s05⟩
        | true =>
        rw [decV] at hp
        have hp := of_decide_eq_true hp
        subst hp
        refine ⟨.int q0, rfl, .ref D, rfl, D, _, rfl, DGet.k (k := Sum.inl q0) hD5, _, rfl, ?_⟩
        rw [cm_some hk5 C.nd]
        cases hq : decide (q0 ∈ cm.map (·.1)) with
        | true => exact ⟨_, _, _, kvs, cm, rfl, hD5, hL5, hk5, C, ecz, s05⟩
        | false =>
        have hq := of_decide_eq_false hq
        refine ⟨.int cz.1, rfl, .int t, rfl, by show 2 ≤ sizeLine; decide, fun a na => ?_⟩
        have s6 := same_new (o := .tup [.int cz.1, .int t]) na
        have ha6 := upd_same (H := H') (a := a) (o := .tup [.int cz.1, .int t])
        have hD6 := s6 _ _ hD5
        have hL6 := s6 _ _ hL5
        have hk6 := cm_tk (Same.tk s6) hk5
        have s06 := s05.trans s6
        generalize upd H' a (.tup [.int cz.1, .int t]) = H6 at s6 ha6 hD6 hL6 hk6 s06
        refine ⟨.ref D, rfl, .int q0, rfl, D, _, rfl, DPut.k (k := Sum.inl q0) hD6 (by rw [lkv]; exact small1000 (by omega)), ?_⟩
        rw [cm_put hk6 hq]
        have tkD : Tk H6 (upd H6 D (.dK (kvs ++ [(Sum.inl q0, V.ref a)]))) := fun b zs e => by
          rw [upd_ne (fun z => by rw [z, hD6] at e; cases e)]
          exact e
        have hD7 : (upd H6 D (.dK (kvs ++ [(Sum.inl q0, V.ref a)]))) D = some (.dK (kvs ++ [(Sum.inl q0, V.ref a)])) := upd_same
        have hL7 : (upd H6 D (.dK (kvs ++ [(Sum.inl q0, V.ref a)]))) L = some (.lst ((cm.map (·.1)).map V.int)) := by rw [upd_ne DL.symm]; exact hL6
        have hk7 := cm_tk tkD hk6
        have ha7 := tkD _ _ ha6
        have s07 := Same.mut (o := .dK (kvs ++ [(Sum.inl q0, V.ref a)])) s06 nD
        generalize upd H6 D (.dK (kvs ++ [(Sum.inl q0, V.ref a)])) = H7 at hD7 hL7 hk7 ha7 s07
        refine ⟨.ref L, rfl, .inl ⟨rfl, _, SqL.of hL7⟩, .int q0, rfl, L, _, _, rfl, rfl, hL7, by rw [List.length_map, List.length_map]; exact small1000 (by omega), ?_⟩
        have tkL := tk_lst (ys := (cm.map (·.1)).map V.int ++ [.int q0]) hL7
        refine ⟨_, _, _, kvs ++ [(Sum.inl q0, V.ref a)], cm ++ [(q0, some (cz.1, t))], rfl, by rw [upd_ne DL]; exact hD7, ?_, Paired.snoc (cm_tk tkL hk7) ⟨rfl, a, rfl, tkL _ _ ha7⟩, C.snoc hq rq ecz htm hj, by rw [List.getElem?_append_left (List.getElem?_eq_some_iff.mp ecz).1]; exact ecz, Same.mut s07 nL0⟩
        rw [upd_same, List.map_append, List.map_append]
        rfl
      · rintro σ' H4 ⟨y7, y8, y9, kvs, cm, rfl, hD, hL, hk, C, ecz, s4⟩
        refine ⟨.int z, rfl, _, _, rfl, rfl, ?_⟩
        exact ⟨41 - (z + 1), by omega, z + 1, _, _, _, kvs, cm, by show _ = [_, _, _, _, _, _, some (V.int ((z + 1 : Nat) : Int)), _, _, _, _, _, _]; rw [Int.natCast_add]; rfl, hD, hL, hk, C, s4, rfl⟩
    rintro σ' H3 ⟨z, y7, y8, y9, kvs, cm, rfl, hD, hk, C, s3⟩
    refine ⟨.int e0, rfl, .ref D, rfl, D, _, rfl, DGet.k (k := Sum.inl e0) hD, _, rfl, ?_⟩
    rw [cm_some hk C.nd]
    cases he : decide (e0 ∈ cm.map (·.1)) with
    | false => exact qn _ s3
    | true =>
    have he := of_decide_eq_true he
    obtain ⟨c, hc, ec⟩ := List.mem_map.mp he
    obtain ⟨i0, hi0⟩ := List.getElem?_of_mem hc
    obtain ⟨q1, o1⟩ := c
    have ec : q1 = e0 := ec
    subst ec
    have lcm : (cm.map (·.1)).length ≤ n.toNat := pigeon49 (m := n.toNat) _ C.nd fun x hx => by
      obtain ⟨c, hc, rfl⟩ := List.mem_map.mp hx
      have := C.rng c hc
      omega
    rw [List.length_map] at lcm
    have uniq : ∀ (i j : Nat) (p : Int) (o o' : Option (Int × Int)), cm[i]? = some (p, o) → cm[j]? = some (p, o') → i = j := fun i j p o o' h1 h2 => by
      have l1 := (List.getElem?_eq_some_iff.mp h1).1
      have l2 := (List.getElem?_eq_some_iff.mp h2).1
      have e1 : (cm.map (·.1))[i]? = some p := by rw [List.getElem?_map, h1]; rfl
      have e2 : (cm.map (·.1))[j]? = some p := by rw [List.getElem?_map, h2]; rfl
      have e1 := (List.getElem?_eq_some_iff.mp e1)
      have e2 := (List.getElem?_eq_some_iff.mp e2)
      refine Classical.byContradiction fun ne => ?_
      rcases Nat.lt_or_gt_of_ne ne with lt | lt
      · exact List.pairwise_iff_getElem.mp C.nd i j e1.1 e2.1 lt (e1.2.trans e2.2.symm)
      · exact List.pairwise_iff_getElem.mp C.nd j i e2.1 e1.1 lt (e2.2.trans e1.2.symm)
    refine ⟨.int q1, rfl, by show 1 ≤ sizeLine; decide, fun A nA => ⟨Nat.zero_le _, fun B nB => ?_⟩⟩
    have sA := same_new (o := .lst [.int q1]) nA
    have hA4 : (upd H3 A (.lst [.int q1])) A = some (.lst ([q1].map V.int)) := upd_same
    have nA0 := s3.free nA
    have AD : D ≠ A := ne_of_none hD nA
    have nB0 := (s3.trans sA).free nB
    have AB : A ≠ B := ne_of_none hA4 nB
    have BD : D ≠ B := ne_of_none (sA _ _ hD) nB
    have sB := same_new (o := .lst []) nB
    have hB5 : (upd (upd H3 A (.lst [.int q1])) B (.lst [])) B = some (.lst (([] : List Int).map V.int)) := upd_same
    have hA5 := sB _ _ hA4
    have s35 := sA.trans sB
    have hD5 := s35 _ _ hD
    have hk5 := cm_tk (Same.tk s35) hk
    have s5 := s3.trans s35
    generalize upd (upd H3 A (.lst [.int q1])) B (.lst []) = H5 at hB5 hA5 hD5 hk5 s5
    clear hA4 sA sB s35 nA nB hD hk s3
    refine ⟨fun m σ' H' => ∃ (y7 y12 : Option V) (ps es : List Int) (q0 : Int) (o : Option (Int × Int)), σ' = [some (.ref tb), some (.ref nl), some (.int b0), some (.int q1), some (.ref D), some (.ref L), some (.int z), y7, y8, y9, some (.ref A), some (.ref B), y12] ∧ H' D = some (.dK kvs) ∧ Paired (CmV H') kvs cm ∧ H' A = some (.lst ((q0 :: ps).map V.int)) ∧ H' B = some (.lst (es.map V.int)) ∧ cm[m]? = some (q0, o) ∧ ps.length = es.length ∧ (q0 :: ps)[es.length]? = some q1 ∧ (q0 :: ps).Nodup ∧ (∀ p ∈ q0 :: ps, ∃ i o', m ≤ i ∧ cm[i]? = some (p, o')) ∧ (∀ (k : Nat) (t x y : Int), es[k]? = some t → (q0 :: ps)[k]? = some x → (q0 :: ps)[k + 1]? = some y → t ∈ nums ∧ joinB (tieAt ts t) x y = true) ∧ es.length + m ≤ 40 ∧ Same H H', ⟨i0, y7, none, [], [], q1, o1, rfl, hD5, hk5, hA5, hB5, hi0, rfl, rfl, by simp, fun p hp => by rw [List.mem_singleton.mp hp]; exact ⟨i0, o1, Nat.le_refl _, hi0⟩, fun k t x y e => by simp at e, by have := (List.getElem?_eq_some_iff.mp hi0).1; simp only [List.length_nil]; omega, s5⟩, ?_⟩
    rintro m σ' H6 ⟨y7', y12, ps, es, q0, o, rfl, hD6, hk6, hA6, hB6, em, ll, hl, nd, idx, st, lm, s6⟩
    obtain ⟨v, ev, hv⟩ := cm_val hk6 C.nd m q0 o em
    have g6 : DGet H6 D (.int q0) (some v) := by rw [← ev]; exact DGet.k (k := Sum.inl q0) hD6
    have a0 : atI ((q0 :: ps).map V.int) 0 = some (.int q0) := atI_nat (show ((q0 :: ps).map V.int)[0]? = some (.int q0) from rfl)
    refine ⟨.ref D, rfl, .ref A, rfl, A, _, 0, .int q0, rfl, rfl, SqL.of hA6, a0, D, v, rfl, g6, rfl, _, rfl, ?_⟩
    cases o with
    | none =>
      have hv : v = .non := hv
      subst hv
      have m0 : m = 0 := by
        refine Classical.byContradiction fun ne => ?_
        obtain ⟨p, t, _, _, h1, _⟩ := C.st m q0 none (by omega) em
        cases h1
      subst m0
      rw [C.hd] at em
      cases em
      refine ⟨.ref A, rfl, .ref B, rfl, by show 2 ≤ sizeLine; decide, fun r nr => ?_⟩
      have sr := same_new (o := .tup [.ref A, .ref B]) nr
      exact qs r A B (b0 :: ps) es _ (s6.trans sr) upd_same (sr _ _ hA6) (sr _ _ hB6) ⟨by rw [List.length_cons, ll], rfl, hl, nd, by rw [List.length_cons, ll]; omega, fun p hp => by
        obtain ⟨i, o', _, h⟩ := idx p hp
        exact C.rng _ (List.mem_of_getElem? h), st⟩ nA0 nB0
    | some x =>
      obtain ⟨p, t⟩ := x
      obtain ⟨a, rfl, ha⟩ := (show ∃ a, v = .ref a ∧ H6 a = some (.tup [.int p, .int t]) from hv)
      refine ⟨_, fun _ _ h => h, ?_⟩
      have m0 : 0 < m := by
        refine Nat.pos_of_ne_zero fun z => ?_
        rw [z, C.hd] at em
        cases em
      obtain ⟨p', t', i', o', h1, h2, h3, h4, h5⟩ := C.st m q0 _ m0 em
      cases h1
      refine ⟨.ref D, rfl, .ref A, rfl, A, _, 0, .int q0, rfl, rfl, SqL.of hA6, a0, D, .ref a, rfl, g6, a, _, rfl, SqT.of ha, rfl, _, _, rfl, _, _, rfl, rfl, ?_⟩
      refine ⟨.ref A, rfl, .inl ⟨rfl, _, SqL.of hA6⟩, .int p, rfl, A, _, 0, .int p, rfl, rfl, hA6, by rw [List.length_map, List.length_cons]; exact small1000 (by omega), by decide, by decide, ?_⟩
      have eA : ((q0 :: ps).map V.int).take (0 : Int).toNat ++ [V.int p] ++ ((q0 :: ps).map V.int).drop (0 : Int).toNat = (p :: q0 :: ps).map V.int := rfl
      rw [eA]
      have tkA := tk_lst (ys := (p :: q0 :: ps).map V.int) hA6
      have hA7 : (upd H6 A (.lst ((p :: q0 :: ps).map V.int))) A = some (.lst ((p :: q0 :: ps).map V.int)) := upd_same
      have hB7 : (upd H6 A (.lst ((p :: q0 :: ps).map V.int))) B = some (.lst (es.map V.int)) := by rw [upd_ne AB.symm]; exact hB6
      have hD7 : (upd H6 A (.lst ((p :: q0 :: ps).map V.int))) D = some (.dK kvs) := by rw [upd_ne AD]; exact hD6
      have hk7 := cm_tk tkA hk6
      have s7 := Same.mut (o := .lst ((p :: q0 :: ps).map V.int)) s6 nA0
      generalize upd H6 A (.lst ((p :: q0 :: ps).map V.int)) = H7 at hA7 hB7 hD7 hk7 s7
      refine ⟨.ref B, rfl, .inl ⟨rfl, _, SqL.of hB7⟩, .int t, rfl, B, _, 0, .int t, rfl, rfl, hB7, by rw [List.length_map]; exact small1000 (by omega), by decide, by decide, ?_⟩
      have eB : (es.map V.int).take (0 : Int).toNat ++ [V.int t] ++ (es.map V.int).drop (0 : Int).toNat = (t :: es).map V.int := rfl
      rw [eB]
      have tkB := tk_lst (ys := (t :: es).map V.int) hB7
      have hpn : p ∉ q0 :: ps := fun z => by
        obtain ⟨i2, o2, h6, h7⟩ := idx p z
        have := uniq i' i2 p _ _ h3 h7
        omega
      refine ⟨i', h2, _, _, q0 :: ps, t :: es, p, o', rfl, by rw [upd_ne BD]; exact hD7, cm_tk tkB hk7, by rw [upd_ne AB]; exact hA7, upd_same, h3, by rw [List.length_cons, List.length_cons, ll], by simpa using hl, List.nodup_cons.mpr ⟨hpn, nd⟩, fun p2 hp2 => ?_, fun k t2 x y e1 e2 e3 => ?_, by rw [List.length_cons]; omega, Same.mut s7 nB0⟩
      · rcases List.mem_cons.mp hp2 with e | e
        · rw [e]; exact ⟨i', o', Nat.le_refl _, h3⟩
        · obtain ⟨i2, o2, h6, h7⟩ := idx p2 e
          exact ⟨i2, o2, by omega, h7⟩
      · cases k with
        | zero =>
          cases e1
          cases e2
          cases e3
          exact ⟨h4, h5⟩
        | succ k => exact st k t2 x y (by simpa using e1) (by simpa using e2) (by simpa using e3)
end
/-! ### papers: rings drawn -/
theorem cut_dropP {xs : List V} {k : Nat} (h : k ≤ xs.length) : cutV xs (some (k : Int)) none = xs.drop k := by
  unfold cutV
  rw [HT.sIx_none, HT.sIx_nat, Nat.min_eq_left h]
  exact List.take_of_length_le (by rw [List.length_drop]; omega)
theorem cut_initP {xs : List V} (h : 1 ≤ xs.length) : cutV xs none (some (-1)) = xs.take (xs.length - 1) := by
  unfold cutV
  have e : HT.sIx xs.length xs.length (some (-1)) = xs.length - 1 := by
    show (if (-1 : Int) < 0 then ((-1 : Int) + (xs.length : Int)).toNat else min (-1 : Int).toNat xs.length) = _
    rw [if_pos (by decide)]
    omega
  rw [HT.sIx_none, e, List.drop_zero]
  rfl
theorem cut_lastP {xs : List V} (h : 1 ≤ xs.length) : cutV xs (some (-1)) none = xs.drop (xs.length - 1) := by
  unfold cutV
  have e : HT.sIx xs.length 0 (some (-1)) = xs.length - 1 := by
    show (if (-1 : Int) < 0 then ((-1 : Int) + (xs.length : Int)).toNat else min (-1 : Int).toNat xs.length) = _
    rw [if_pos (by decide)]
    omega
  rw [HT.sIx_none, e]
  exact List.take_of_length_le (by rw [List.length_drop]; omega)
def rotI (xs : List Int) (k : Nat) : List Int := xs.drop k ++ xs.take k
theorem rotI_len (xs : List Int) (k : Nat) : (rotI xs k).length = xs.length := by
  unfold rotI
  rw [List.length_append, List.length_drop, List.length_take]
  omega
theorem rotI_perm (xs : List Int) (k : Nat) : (rotI xs k).Perm xs := by
  unfold rotI
  refine List.perm_append_comm.trans ?_
  rw [List.take_append_drop]
def turnP (xs : List Int) (k : Nat) (rev : Bool) : List Int := if rev then (rotI xs k).reverse else rotI xs k
def turnE (xs : List Int) (k : Nat) (rev : Bool) : List Int := if rev then ((rotI xs k).take (xs.length - 1)).reverse ++ (rotI xs k).drop (xs.length - 1) else rotI xs k
theorem turnP_perm (xs : List Int) (k : Nat) (rev : Bool) : (turnP xs k rev).Perm xs := by
  unfold turnP
  cases rev
  · exact rotI_perm xs k
  · exact (List.reverse_perm _).trans (rotI_perm xs k)
theorem turnE_perm (xs : List Int) (k : Nat) (rev : Bool) : (turnE xs k rev).Perm xs := by
  unfold turnE
  cases rev
  · exact rotI_perm xs k
  · refine (List.Perm.append_right _ (List.reverse_perm _)).trans ?_
    rw [List.take_append_drop]
    exact rotI_perm xs k
def PairT (H : Hp) (v : V) (x : List Int × List Int) : Prop := ∃ a pa ta, v = .ref a ∧ H a = some (.tup [.ref pa, .ref ta]) ∧ H pa = some (.tup (x.1.map V.int)) ∧ H ta = some (.tup (x.2.map V.int))
theorem PairT.tk {H H' : Hp} (k : Tk H H') {v : V} {x : List Int × List Int} (h : PairT H v x) : PairT H' v x := by
  obtain ⟨a, pa, ta, e, h1, h2, h3⟩ := h
  exact ⟨a, pa, ta, e, k _ _ h1, k _ _ h2, k _ _ h3⟩
theorem pairs_tk {H H' : Hp} (k : Tk H H') {vs : List V} {xs : List (List Int × List Int)} (h : Paired (PairT H) vs xs) : Paired (PairT H') vs xs := Paired.mono (fun _ _ x => x.tk k) h
def spPTurned : Sp := fun vs H Q _ => ∃ (d c pl tl : Addr) (ps es : List Int), vs = [.ref d, .ref pl, .ref tl] ∧ Deck H d c ∧ H pl = some (.lst (ps.map V.int)) ∧ H tl = some (.lst (es.map V.int)) ∧ 1 ≤ ps.length ∧ ps.length ≤ 60 ∧ es.length = ps.length ∧ pl ≠ c ∧ tl ≠ c ∧
  ∀ v k rev H', k < ps.length → PairT H' v (turnP ps k rev, turnE es k rev) → Deck H' d c → Kp d c H H' → Q v H'
/-- a ring as it is drawn: a way between a tie's places, closed by the tie, told from some place on, either way round -/
def RingD (ts : List Tie) (nums : List Int) (n w : Int) (x : List Int × List Int) : Prop := ∃ (ps es : List Int) (tie : Int) (k : Nat) (rev : Bool) (others : List Int), WayR ts others n (tieAt ts tie).one (tieAt ts tie).other ps es ∧ (∀ o ∈ others, o ∈ nums ∧ o ≠ tie) ∧ tie ∈ nums ∧ k < ps.length ∧ x = (turnP ps k rev, turnE (es ++ [tie]) k rev) ∧ (foesI ts (es ++ [tie]) : Int) % 2 = w
def spPRings : Sp := fun vs H Q _ => ∃ (d c tb nl : Addr) (us : List V) (ts : List Tie) (nums : List Int) (w most n : Int), vs = [.ref d, .ref tb, .ref nl, .int w, .int most] ∧ Deck H d c ∧ H tb = some (.tup us) ∧ Paired (TieV H) us ts ∧ WebLo n ts ∧ H nl = some (.lst (nums.map V.int)) ∧ nl ≠ c ∧ (∀ x ∈ nums, 0 ≤ x ∧ x < (ts.length : Int)) ∧ nums.length ≤ 200 ∧ 0 ≤ most ∧ most ≤ 200 ∧
  ∀ r vs xs H', H' r = some (.lst vs) → Paired (PairT H') vs xs → (∀ x ∈ xs, RingD ts nums n w x) → (vs.length : Int) ≤ most → Deck H' d c → Kp d c H H' → H r = none → Q (.ref r) H'
theorem Deck.nel {H : Hp} {d c l : Addr} {xs : List V} (D : Deck H d c) (h : H l = some (.lst xs)) : l ≠ d := by
  obtain ⟨cells, st, n, e1, e2, e3⟩ := D
  exact fun z => by rw [z, e1] at h; cases h
section
variable {P : Program} {w : World} {K : PySem.W.Frag} {mg : Str → Option Value} {base : Heap}
set_option maxHeartbeats 4000000 in
theorem ok_l_turned {f : Addr} {fd : FuncData} (F : Fun K "_law_turned" "_law_turned" s_l_turned f fd) (M : Free mg) (D_l_draw : Df P w K mg base 1 "_law_draw" ["_law_feed_here", "_law_most"] spDraw) : FnOk P w K mg base CX0 2 f fd ["_law_feed_here", "_law_places", "_law_told_here"] spPTurned := by
  obtain ⟨f_l_draw, fd_l_draw, G_l_draw, g_l_draw, k_l_draw, b_l_draw⟩ := D_l_draw
  refine F.ok sc_l_turned (fun vs H Q E h => ?_) (fun cdv A outer s H vs Q E hr h => ?_)
  · obtain ⟨d, c, pl, tl, ps, es, rfl, _⟩ := h
    rfl
  · obtain ⟨d, c, pl, tl, ps, es, rfl, D, hpl, htl, l1, l60, le, pc, tc, q⟩ := h
    refine ⟨_, (pss_cons (ps_set (i := 3) sc_l_turned.nd rfl (.inl rfl) (pe_call G_l_draw (hr.mono (by decide)) (by rfl) g_l_draw k_l_draw b_l_draw .nil pass0 (pa_cons (pv 0) (pa_cons (pe_callB call_len_seq (by rfl) M.len PySem.boot_len (pa_cons (pv 1) pa_nil)) pa_nil))))
      (pss_cons (ps_set (i := 1) sc_l_turned.nd rfl (.inl rfl) (pe_op op_cat (pe_slice sl_list (pv 1) (po_some (pv 3)) po_none) (pe_slice sl_list (pv 1) po_none (po_some (pv 3)))))
      (pss_cons (ps_set (i := 2) sc_l_turned.nd rfl (.inl rfl) (pe_op op_cat (pe_slice sl_list (pv 2) (po_some (pv 3)) po_none) (pe_slice sl_list (pv 2) po_none (po_some (pv 3)))))
      (Evl.pss_cut (ps_if (pt_cmpR op_eq (pe_call G_l_draw (hr.mono (by decide)) (by rfl) g_l_draw k_l_draw b_l_draw .nil pass0 (pa_cons (pv 0) (pa_cons pe_int pa_nil))) pe_int (nomark _))
        (pss_cons (ps_set (i := 1) sc_l_turned.nd rfl (.inl rfl) (pe_revL (pv 1)))
        (pss_one (ps_set (i := 2) sc_l_turned.nd rfl (.inl rfl) (pe_op op_cat (pe_revL (pe_slice sl_list (pv 2) po_none (po_some (pe_un un_neg pe_int)))) (pe_slice sl_list (pv 2) (po_some (pe_un un_neg pe_int)) po_none)))))
        pss_nil)
      (pss_one (ps_ret (pe_tup (pa_cons (pe_callTy call_tuple_of (by rfl) M.tuple (by decide +kernel) (pa_cons (pv 1) pa_nil)) (pa_cons (pe_callTy call_tuple_of (by rfl) M.tuple (by decide +kernel) (pa_cons (pv 2) pa_nil)) pa_nil))))))))), ?_⟩
    have pd := D.nel hpl
    have td := D.nel htl
    refine ⟨.ref d, rfl, .ref pl, rfl, pl, _, rfl, .inl (SqL.of hpl), d, c, _, rfl, D, by rw [List.length_map]; omega, nb120 (by omega) (by rw [List.length_map]; omega), fun k0 H1 k0' k1 D1 K1 => ?_⟩
    rw [List.length_map] at k1
    obtain ⟨k, rfl⟩ : ∃ k : Nat, k0 = (k : Int) := ⟨k0.toNat, by omega⟩
    have kl : k < ps.length := by omega
    have hpl1 := K1 _ _ pd pc hpl
    have htl1 := K1 _ _ td tc htl
    clear hpl htl
    -- a list begun elsewhere
    have rot : ∀ (xs : List Int), xs.length = ps.length → (cutV (xs.map V.int) (some (k : Int)) none) ++ (cutV (xs.map V.int) none (some (k : Int))) = (rotI xs k).map V.int := fun xs lx => by
      rw [cut_dropP (by rw [List.length_map]; omega), cut_take (by rw [List.length_map]; omega), ← List.map_drop, ← List.map_take, ← List.map_append]
      rfl
    refine ⟨.ref pl, rfl, .int k, rfl, k, rfl, pl, _, rfl, SqL.of hpl1, fun p1 n1 => ⟨.ref pl, rfl, .int k, rfl, k, rfl, pl, _, rfl, SqL.of (same_new n1 _ _ hpl1), fun p2 n2 => ?_⟩⟩
    have s1 := same_new (o := .lst (cutV (ps.map V.int) (some (k : Int)) none)) n1
    have s2 := same_new (o := .lst (cutV (ps.map V.int) none (some (k : Int)))) n2
    have h1 := s2 _ _ (upd_same (H := H1) (a := p1) (o := .lst (cutV (ps.map V.int) (some (k : Int)) none)))
    have h2 := upd_same (H := upd H1 p1 (.lst (cutV (ps.map V.int) (some (k : Int)) none))) (a := p2) (o := .lst (cutV (ps.map V.int) none (some (k : Int))))
    have s12 := s1.trans s2
    generalize upd (upd H1 p1 (.lst (cutV (ps.map V.int) (some (k : Int)) none))) p2 (.lst (cutV (ps.map V.int) none (some (k : Int)))) = H2 at s12 h1 h2
    have lsum : (cutV (ps.map V.int) (some (k : Int)) none).length + (cutV (ps.map V.int) none (some (k : Int))).length ≤ sizeLine := by
      have := congrArg List.length (rot ps rfl)
      rw [List.length_append, List.length_map, rotI_len] at this
      rw [this]
      exact Nat.le_of_lt (small1000 (by omega))
    refine ⟨p1, p2, _, _, rfl, rfl, h1, h2, lsum, fun p3 n3 => ?_⟩
    rw [rot ps rfl]
    have s3 := same_new (o := .lst ((rotI ps k).map V.int)) n3
    have hP3 := upd_same (H := H2) (a := p3) (o := .lst ((rotI ps k).map V.int))
    have htl3 := s3 _ _ (s12 _ _ htl1)
    have D3 := (D1.same s12).same s3
    have K3 := (K1.trans (Same.kp s12)).trans (Same.kp s3)
    have n3c := ((D1.same s12).ned n3).2
    generalize upd H2 p3 (.lst ((rotI ps k).map V.int)) = H3 at s3 hP3 htl3 D3 K3
    clear s1 s2 h1 h2 s12 lsum n1 n2 s3 n3
    refine ⟨.ref tl, rfl, .int k, rfl, k, rfl, tl, _, rfl, SqL.of htl3, fun p1 n1 => ⟨.ref tl, rfl, .int k, rfl, k, rfl, tl, _, rfl, SqL.of (same_new n1 _ _ htl3), fun p2 n2 => ?_⟩⟩
    have s1 := same_new (o := .lst (cutV (es.map V.int) (some (k : Int)) none)) n1
    have s2 := same_new (o := .lst (cutV (es.map V.int) none (some (k : Int)))) n2
    have h1 := s2 _ _ (upd_same (H := H3) (a := p1) (o := .lst (cutV (es.map V.int) (some (k : Int)) none)))
    have h2 := upd_same (H := upd H3 p1 (.lst (cutV (es.map V.int) (some (k : Int)) none))) (a := p2) (o := .lst (cutV (es.map V.int) none (some (k : Int))))
    have s12 := s1.trans s2
    generalize upd (upd H3 p1 (.lst (cutV (es.map V.int) (some (k : Int)) none))) p2 (.lst (cutV (es.map V.int) none (some (k : Int)))) = H4 at s12 h1 h2
    have lsum : (cutV (es.map V.int) (some (k : Int)) none).length + (cutV (es.map V.int) none (some (k : Int))).length ≤ sizeLine := by
      have := congrArg List.length (rot es le)
      rw [List.length_append, List.length_map, rotI_len] at this
      rw [this]
      exact Nat.le_of_lt (small1000 (by omega))
    refine ⟨p1, p2, _, _, rfl, rfl, h1, h2, lsum, fun p5 n5 => ?_⟩
    rw [rot es le]
    have s5 := same_new (o := .lst ((rotI es k).map V.int)) n5
    have hE5 := upd_same (H := H4) (a := p5) (o := .lst ((rotI es k).map V.int))
    have hP5 := s5 _ _ (s12 _ _ hP3)
    have D5 := (D3.same s12).same s5
    have K5 := (K3.trans (Same.kp s12)).trans (Same.kp s5)
    have n5c := ((D3.same s12).ned n5).2
    generalize upd H4 p5 (.lst ((rotI es k).map V.int)) = H5 at s5 hE5 hP5 D5 K5
    clear s1 s2 h1 h2 s12 lsum n1 n2 s5 n5 hP3 htl3 D3 K3
    refine ⟨fun σ' H' => ∃ (a b : Addr) (rev : Bool), σ' = [some (.ref d), some (.ref a), some (.ref b), some (.int k)] ∧ H' a = some (.lst ((turnP ps k rev).map V.int)) ∧ H' b = some (.lst ((turnE es k rev).map V.int)) ∧ Deck H' d c ∧ Kp d c H H', ?_, ?_⟩
    · refine ⟨.ref d, rfl, d, c, 2, rfl, D5, by decide, by decide, fun r H6 r0 r1 D6 K6 => ⟨rfl, _, rfl, ?_⟩⟩
      have hP6 := K6 _ _ (D5.nel hP5) n3c hP5
      have hE6 := K6 _ _ (D5.nel hE5) n5c hE5
      refine ite2 (fun _ => ?_) (fun _ => ⟨p3, p5, false, rfl, hP6, hE6, D6, K5.trans K6⟩)
      refine ⟨.ref p3, rfl, p3, _, rfl, SqL.of hP6, fun p7 n7 => ?_⟩
      have s7 := same_new (o := .lst ((rotI ps k).map V.int).reverse) n7
      have h7 := upd_same (H := H6) (a := p7) (o := .lst ((rotI ps k).map V.int).reverse)
      have hE7 := s7 _ _ hE6
      generalize upd H6 p7 (.lst ((rotI ps k).map V.int).reverse) = H7 at s7 h7 hE7
      have lE : ((rotI es k).map V.int).length = es.length := by rw [List.length_map, rotI_len]
      refine ⟨.ref p5, rfl, 1, rfl, -1, rfl, p5, _, rfl, SqL.of hE7, fun a1 m1 => ?_⟩
      rw [cut_initP (by omega)]
      have s8 := same_new (o := .lst (((rotI es k).map V.int).take (((rotI es k).map V.int).length - 1))) m1
      have h8 := upd_same (H := H7) (a := a1) (o := .lst (((rotI es k).map V.int).take (((rotI es k).map V.int).length - 1)))
      have hE8 := s8 _ _ hE7
      generalize upd H7 a1 (.lst (((rotI es k).map V.int).take (((rotI es k).map V.int).length - 1))) = H8 at s8 h8 hE8
      refine ⟨a1, _, rfl, SqL.of h8, fun a2 m2 => ?_⟩
      have s9 := same_new (o := .lst (((rotI es k).map V.int).take (((rotI es k).map V.int).length - 1)).reverse) m2
      have h9 := upd_same (H := H8) (a := a2) (o := .lst (((rotI es k).map V.int).take (((rotI es k).map V.int).length - 1)).reverse)
      have hE9 := s9 _ _ hE8
      generalize upd H8 a2 (.lst (((rotI es k).map V.int).take (((rotI es k).map V.int).length - 1)).reverse) = H9 at s9 h9 hE9
      refine ⟨.ref p5, rfl, 1, rfl, -1, rfl, p5, _, rfl, SqL.of hE9, fun a3 m3 => ?_⟩
      rw [cut_lastP (by omega)]
      have s10 := same_new (o := .lst (((rotI es k).map V.int).drop (((rotI es k).map V.int).length - 1))) m3
      have h10 := upd_same (H := H9) (a := a3) (o := .lst (((rotI es k).map V.int).drop (((rotI es k).map V.int).length - 1)))
      have h910 := s10 _ _ h9
      generalize upd H9 a3 (.lst (((rotI es k).map V.int).drop (((rotI es k).map V.int).length - 1))) = H10 at s10 h10 h910
      refine ⟨a2, a3, _, _, rfl, rfl, h910, h10, ?_, fun a4 m4 => ?_⟩
      · rw [List.length_reverse, List.length_take, List.length_drop, lE]
        exact Nat.le_of_lt (small1000 (by omega))
      have s11 := same_new (o := .lst ((((rotI es k).map V.int).take (((rotI es k).map V.int).length - 1)).reverse ++ ((rotI es k).map V.int).drop (((rotI es k).map V.int).length - 1))) m4
      have s711 := ((s8.trans s9).trans s10).trans s11
      have s611 := s7.trans s711
      refine ⟨p7, a4, true, rfl, ?_, ?_, D6.same s611, (K5.trans K6).trans (Same.kp s611)⟩
      · rw [s711 _ _ h7, ← List.map_reverse]
        rfl
      · rw [upd_same]
        congr 2
        unfold turnE
        rw [if_pos rfl, lE, List.map_append, List.map_reverse, List.map_take, List.map_drop]
    rintro σ' H6 ⟨a, b, rev, rfl, ha, hb, D6, K6⟩
    refine ⟨.ref a, rfl, a, _, rfl, .inl ⟨SqL.of ha, fun x1 m1 => ?_⟩⟩
    have s7 := same_new (o := .tup ((turnP ps k rev).map V.int)) m1
    refine ⟨.ref b, rfl, b, _, rfl, .inl ⟨SqL.of (s7 _ _ hb), fun x2 m2 => ⟨by show 2 ≤ sizeLine; decide, fun x3 m3 => ?_⟩⟩⟩
    have s8 := same_new (o := .tup ((turnE es k rev).map V.int)) m2
    have s9 := same_new (o := .tup [.ref x1, .ref x2]) m3
    have s69 := (s7.trans s8).trans s9
    exact q _ k rev _ kl ⟨x3, x1, x2, rfl, upd_same, s9 _ _ (s8 _ _ upd_same), s9 _ _ upd_same⟩ (D6.same s69) (K6.trans (Same.kp s69))
end
/-! ### papers: rings drawn (2) -/
theorem cut_takeP {xs : List V} {m : Int} (h : 0 ≤ m) : cutV xs none (some m) = xs.take m.toNat := by
  obtain ⟨k, rfl⟩ : ∃ k : Nat, m = (k : Int) := ⟨m.toNat, by omega⟩
  unfold cutV
  rw [HT.sIx_none, HT.sIx_nat, List.drop_zero, Int.toNat_natCast]
  by_cases hk : k ≤ xs.length
  · rw [Nat.min_eq_left hk]
    rfl
  · rw [Nat.min_eq_right (by omega), List.take_of_length_le (by omega), List.take_of_length_le (by omega)]
theorem maxI_ok (m : Nat) (l : m ≤ 200) : 0 < (if (m : Int) > 1 then (m : Int) else 1) ∧ (if (m : Int) > 1 then (m : Int) else 1) ≤ 200 ∧ ∀ b : Int, b < (if (m : Int) > 1 then (m : Int) else 1) → b ≤ (m : Int) ∨ (m = 0 ∧ b < 1) := by
  split
  · exact ⟨by omega, by omega, fun b h => .inl (by omega)⟩
  · refine ⟨by omega, by omega, fun b h => ?_⟩
    by_cases hm : m = 0
    · exact .inr ⟨hm, h⟩
    · exact .inl (by omega)
theorem rot_map (xs : List Int) {k : Nat} (h : k ≤ xs.length) : cutV (xs.map V.int) (some (k : Int)) none ++ cutV (xs.map V.int) none (some (k : Int)) = (rotI xs k).map V.int := by
  rw [cut_dropP (by rw [List.length_map]; exact h), cut_take (by rw [List.length_map]; exact h), ← List.map_drop, ← List.map_take, ← List.map_append]
  rfl
theorem rot_len (xs : List Int) {k : Nat} (h : k ≤ xs.length) (l : xs.length ≤ 1000) : (cutV (xs.map V.int) (some (k : Int)) none).length + (cutV (xs.map V.int) none (some (k : Int))).length ≤ sizeLine := by
  have := congrArg List.length (rot_map xs h)
  rw [List.length_append, List.length_map, rotI_len] at this
  rw [this]
  exact Nat.le_of_lt (small1000 (by omega))
section
variable {P : Program} {w : World} {K : PySem.W.Frag} {mg : Str → Option Value} {base : Heap}
set_option maxHeartbeats 8000000 in
theorem ok_l_rings {f : Addr} {fd : FuncData} (F : Fun K "_law_rings" "_law_rings" s_l_rings f fd) (M : Free mg) (m_max : mg "max" = none) (D_l_draw : Df P w K mg base 1 "_law_draw" ["_law_feed_here", "_law_most"] spDraw) (D_l_way : Df P w K mg base 1 "_law_way" ["_law_ties", "_law_numbers", "_law_begin", "_law_end"] spPWay) (D_l_turned : Df P w K mg base 2 "_law_turned" ["_law_feed_here", "_law_places", "_law_told_here"] spPTurned) : FnOk P w K mg base CX0 3 f fd ["_law_feed_here", "_law_ties", "_law_numbers", "_law_wanted", "_law_most"] spPRings := by
  obtain ⟨f_l_draw, fd_l_draw, G_l_draw, g_l_draw, k_l_draw, b_l_draw⟩ := D_l_draw
  obtain ⟨f_l_way, fd_l_way, G_l_way, g_l_way, k_l_way, b_l_way⟩ := D_l_way
  obtain ⟨f_l_turned, fd_l_turned, G_l_turned, g_l_turned, k_l_turned, b_l_turned⟩ := D_l_turned
  refine F.ok sc_l_rings (fun vs H Q E h => ?_) (fun cdv A outer s H vs Q E hr h => ?_)
  · obtain ⟨d, c, tb, nl, us, ts, nums, w0, most, n, rfl, _⟩ := h
    rfl
  · obtain ⟨d, c, tb, nl, us, ts, nums, w0, most, n, rfl, D, htb, hpw, ok, hnl, nlc, hnum, l200, m0, m200, q⟩ := h
    refine ⟨_, (pss_cons (ps_set (i := 5) sc_l_rings.nd rfl (.inl rfl) (pe_lst pa_nil))
      (pss_cons (ps_set (i := 6) sc_l_rings.nd rfl (.inl rfl) (pe_call G_l_draw (hr.mono (by decide)) (by rfl) g_l_draw k_l_draw b_l_draw .nil pass0 (pa_cons (pv 0) (pa_cons (pe_callB (call_max2 rfl) (by rfl) m_max (by decide +kernel) (pa_cons pe_int (pa_cons (pe_callB call_len_seq (by rfl) M.len PySem.boot_len (pa_cons (pv 2) pa_nil)) pa_nil))) pa_nil))))
      (pss_cons (ps_for PassesOwn.never rfl (pi_list (pe_slice sl_list (pe_op op_cat (pe_slice sl_list (pv 2) (po_some (pv 6)) po_none) (pe_slice sl_list (pv 2) po_none (po_some (pv 6)))) po_none (po_some (pv 4)))) (pg_name (i := 7) sc_l_rings.nd rfl (.inr rfl))
        (pss_cons (ps_setLc (i := 8) (own := [("_law_one", 9)]) (g := (gName 9)) (te := tVar 9) rfl sc_l_rings.nd rfl rfl (sw_true rfl rfl rfl (by decide +kernel)) (pi_list (pv 2)) (blkOk_by (N := N_l_rings) (sc := defScope s_l_rings) (own := [("_law_one", 9)]) (by decide +kernel)) (fun _ _ _ _ _ => (pg_name (i := 9) sc_l_rings.nd rfl (.inl rfl))) (fun _ _ _ _ _ => (pts_one (pt_cmpR op_ne (pv 9) (pv 7) (nomark _)))) (fun _ _ _ _ _ => (pv 9)))
        (pss_cons (ps_set (i := 10) sc_l_rings.nd rfl (.inl rfl) (pe_call G_l_draw (hr.mono (by decide)) (by rfl) g_l_draw k_l_draw b_l_draw .nil pass0 (pa_cons (pv 0) (pa_cons (pe_callB (call_max2 rfl) (by rfl) m_max (by decide +kernel) (pa_cons pe_int (pa_cons (pe_callB call_len_seq (by rfl) M.len PySem.boot_len (pa_cons (pv 8) pa_nil)) pa_nil))) pa_nil))))
        (pss_cons (ps_set (i := 11) sc_l_rings.nd rfl (.inl rfl) (pe_call G_l_way (hr.mono (by decide)) (by rfl) g_l_way k_l_way b_l_way .nil pass0 (pa_cons (pv 1) (pa_cons (pe_op op_cat (pe_slice sl_list (pv 8) (po_some (pv 10)) po_none) (pe_slice sl_list (pv 8) po_none (po_some (pv 10)))) (pa_cons (pe_ix ix_tup (pe_ix ix_tup (pv 1) (pv 7) (fun _ _ => rfl)) pe_int (fun _ _ => rfl)) (pa_cons (pe_ix ix_tup (pe_ix ix_tup (pv 1) (pv 7) (fun _ _ => rfl)) pe_int (fun _ _ => rfl)) pa_nil))))))
        (pss_one (ps_if (pt_cmpR op_notN (pv 11) pe_non (nomark _))
          (pss_cons (ps_set (i := 12) sc_l_rings.nd rfl (.inl rfl) (pe_op op_cat (pe_ix ix_tup (pv 11) pe_int (fun _ _ => rfl)) (pe_lst (pa_cons (pv 7) pa_nil))))
          (pss_one (ps_if (pt_cmpR op_eq (pe_op op_mod (pe_callB call_len_seq (by rfl) M.len PySem.boot_len (pa_cons (pe_lc (own := [("_law_one", 9)]) (g := (gName 9)) (te := tVar 9) rfl sc_l_rings.nd (pi_list (pv 12)) (blkOk_by (N := N_l_rings) (sc := defScope s_l_rings) (own := [("_law_one", 9)]) (by decide +kernel)) (fun _ _ _ _ _ => (pg_name (i := 9) sc_l_rings.nd rfl (.inl rfl))) (fun _ _ _ _ _ => (pts_one (pt_cmpR op_eq (pe_ix (r := rIxT K) ix_tup (pe_ix (r := rIxT K) ix_tup (pv 1) (pv 9) (fun _ _ => rfl)) pe_int (fun _ _ => rfl)) pe_str (nomark _)))) (fun _ _ _ _ _ => (pv 9))) pa_nil)) pe_int) (pv 3) (nomark _))
            (pss_one (ps_expr (pe_bm PySem.F.plainAttrs_list PySem.F.slot_list_append PySem.F.type_list_append mt_append (pv 5) (pa_cons (pe_call G_l_turned (hr.mono (by decide)) (by rfl) g_l_turned k_l_turned b_l_turned .nil pass0 (pa_cons (pv 0) (pa_cons (pe_ix ix_tup (pv 11) pe_int (fun _ _ => rfl)) (pa_cons (pv 12) pa_nil)))) pa_nil))))
            pss_nil)))
          pss_nil))))))
      (pss_one (ps_ret (pv 5)))))), ?_⟩
    have few := ok.few
    have nld := D.nel hnl
    refine ⟨Nat.zero_le _, fun L nL => ?_⟩
    have sL := same_new (o := .lst []) nL
    have hL1 : (upd H L (.lst [])) L = some (.lst []) := upd_same
    obtain ⟨Ld, Lc⟩ := D.ned nL
    have D1 := D.same sL
    have K1 : Kp d c H (upd H L (.lst [])) := Same.kp sL
    generalize upd H L (.lst []) = H1 at hL1 D1 K1
    clear sL
    have mx := maxI_ok nums.length l200
    refine ⟨.ref d, rfl, .ref nl, rfl, nl, _, rfl, .inl (SqL.of (K1 _ _ nld nlc hnl)), _, _, rfl, d, c, _, rfl, D1, by rw [List.length_map]; exact mx.1, nb120 (by rw [List.length_map]; omega) (by rw [List.length_map]; omega), fun b H2 b0 b1 D2 K2 => ?_⟩
    rw [List.length_map] at b1
    have bl := mx.2.2 b b1
    obtain ⟨k, rfl⟩ : ∃ k : Nat, b = (k : Int) := ⟨b.toNat, by omega⟩
    have kl : k ≤ nums.length := by omega
    have K02 := K1.trans K2
    have hnl2 := K02 _ _ nld nlc hnl
    have hL2 := K2 _ _ Ld Lc hL1
    clear K1 K2 D1 hL1 b1 bl mx
    refine ⟨.ref nl, rfl, .int k, rfl, k, rfl, nl, _, rfl, SqL.of hnl2, fun p1 n1 => ⟨.ref nl, rfl, .int k, rfl, k, rfl, nl, _, rfl, SqL.of (same_new n1 _ _ hnl2), fun p2 n2 => ?_⟩⟩
    have s1 := same_new (o := .lst (cutV (nums.map V.int) (some (k : Int)) none)) n1
    have s2 := same_new (o := .lst (cutV (nums.map V.int) none (some (k : Int)))) n2
    have h1 := s2 _ _ (upd_same (H := H2) (a := p1) (o := .lst (cutV (nums.map V.int) (some (k : Int)) none)))
    have h2 := upd_same (H := upd H2 p1 (.lst (cutV (nums.map V.int) (some (k : Int)) none))) (a := p2) (o := .lst (cutV (nums.map V.int) none (some (k : Int))))
    have s12 := s1.trans s2
    generalize upd (upd H2 p1 (.lst (cutV (nums.map V.int) (some (k : Int)) none))) p2 (.lst (cutV (nums.map V.int) none (some (k : Int)))) = H3 at s12 h1 h2
    refine ⟨p1, p2, _, _, rfl, rfl, h1, h2, rot_len nums kl (by omega), fun p3 n3 => ?_⟩
    rw [rot_map nums kl]
    have s3 := same_new (o := .lst ((rotI nums k).map V.int)) n3
    have h3 := upd_same (H := H3) (a := p3) (o := .lst ((rotI nums k).map V.int))
    generalize upd H3 p3 (.lst ((rotI nums k).map V.int)) = H4 at s3 h3
    refine ⟨.int most, rfl, most, rfl, p3, _, rfl, SqL.of h3, fun p4 n4 => ?_⟩
    rw [cut_takeP m0, ← List.map_take]
    have s4 := same_new (o := .lst (((rotI nums k).take most.toNat).map V.int)) n4
    have h4 := upd_same (H := H4) (a := p4) (o := .lst (((rotI nums k).take most.toNat).map V.int))
    have s24 := (s12.trans s3).trans s4
    have hL4 := s24 _ _ hL2
    have Lp4 : L ≠ p4 := ne_of_none (s3 _ _ (s12 _ _ hL2)) n4
    obtain ⟨p4d, p4c⟩ := ((D2.same s12).same s3).ned n4
    have D4 := D2.same s24
    have K4 := K02.trans (Same.kp s24)
    have win : ∀ x ∈ (rotI nums k).take most.toNat, x ∈ nums := fun x hx => (rotI_perm nums k).mem_iff.mp (List.mem_of_mem_take hx)
    have wl : ((rotI nums k).take most.toNat).length ≤ most.toNat := List.length_take_le ..
    generalize (rotI nums k).take most.toNat = wk at s4 h4 win wl hL4 D4 K4 s24
    generalize upd H4 p4 (.lst (wk.map V.int)) = H5 at h4 hL4 D4 K4
    clear s1 s2 h1 h2 s12 n1 n2 s3 h3 s4 n4 n3 s24 hnl2 hL2 D2 K02
    refine ⟨p4, rfl, ⟨_, SqL.of h4⟩, ?_⟩
    refine for_list (xs := wk.map V.int) (fun j σ' H' => ∃ (y7 y8 y9 y10 y11 y12 : Option V) (vs : List V) (xs : List (List Int × List Int)), σ' = [some (.ref d), some (.ref tb), some (.ref nl), some (.int w0), some (.int most), some (.ref L), some (.int k), y7, y8, y9, y10, y11, y12] ∧ H' L = some (.lst vs) ∧ Paired (PairT H') vs xs ∧ (∀ x ∈ xs, RingD ts nums n w0 x) ∧ vs.length ≤ j ∧ H' p4 = some (.lst (wk.map V.int)) ∧ Deck H' d c ∧ Kp d c H H') ⟨_, none, none, none, none, none, [], [], rfl, hL4, .nil, fun x h => (by cases h), Nat.le_refl _, h4, D4, K4⟩ (fun j σ' H' _ h => by
      obtain ⟨_, _, _, _, _, _, _, _, _, _, _, _, _, h, _⟩ := h
      exact SqL.of h) ?_ ?_
    · clear hL4 h4 D4 K4
      rintro j x σ' H5 ex ⟨y7, y8, y9, y10, y11, y12, vs, xs, rfl, hL, hv, hR, lv, hp4, D5, K5⟩
      rw [List.getElem?_map] at ex
      obtain ⟨tie, et, rfl⟩ := Option.map_eq_some_iff.mp ex
      have jl := (List.getElem?_eq_some_iff.mp et).1
      have tn := win tie (List.mem_of_getElem? et)
      have tr := hnum tie tn
      have hnl5 := K5 _ _ nld nlc hnl
      refine ⟨.ref nl, rfl, nl, rfl, ⟨_, SqL.of hnl5⟩, fun Z nZ => ?_⟩
      obtain ⟨Zd, Zc⟩ := D5.ned nZ
      refine lc_list (K := K) (xs := nums.map V.int) (fun i H' => H' Z = some (.lst (((nums.take i).filter fun z => decide (z ≠ tie)).map V.int)) ∧ Same H5 H') ⟨upd_same, same_new nZ⟩ (fun i H' _ h => SqL.of (h.2 _ _ hnl5)) ?_ ?_
      · rintro i x H6 ei ⟨hZ, s6⟩
        rw [List.getElem?_map] at ei
        obtain ⟨z, ez, rfl⟩ := Option.map_eq_some_iff.mp ei
        have il := (List.getElem?_eq_some_iff.mp ez).1
        refine ⟨rfl, .int z, rfl, .int tie, rfl, rfl, _, rfl, ?_⟩
        rw [decV]
        have etk : (nums.take (i + 1)).filter (fun z => decide (z ≠ tie)) = (nums.take i).filter (fun z => decide (z ≠ tie)) ++ if z = tie then [] else [z] := by
          rw [List.take_add_one, ez, List.filter_append]
          congr 1
          by_cases h : z = tie
          · rw [if_pos h]; simp [h]
          · rw [if_neg h]; simp [h]
        have lf := List.length_filter_le (fun z => decide (z ≠ tie)) (nums.take i)
        rw [List.length_take] at lf
        by_cases h : z = tie
        · rw [decide_eq_true h]
          show _ ∧ _
          rw [etk, if_pos h, List.append_nil]
          exact ⟨hZ, s6⟩
        · rw [decide_eq_false h]
          refine ⟨.int z, rfl, _, hZ, by rw [List.length_map]; exact small1000 (by omega), ?_, Same.mut s6 nZ⟩
          rw [upd_same, etk, if_neg h, List.map_append]
          rfl
      rintro H6 ⟨hZ, s6⟩
      rw [List.length_map, List.take_length] at hZ
      have ho : ∀ o ∈ nums.filter (fun z => decide (z ≠ tie)), o ∈ nums ∧ o ≠ tie := fun o h => by
        have := List.mem_filter.mp h
        exact ⟨this.1, of_decide_eq_true this.2⟩
      have lo : (nums.filter (fun z => decide (z ≠ tie))).length ≤ 200 := by
        have := List.length_filter_le (fun z => decide (z ≠ tie)) nums
        omega
      generalize nums.filter (fun z => decide (z ≠ tie)) = ot at hZ ho lo
      have D6 := D5.same s6
      have K6 := K5.trans (Same.kp s6)
      have hL6 := s6 _ _ hL
      have hv6 := pairs_tk (Same.tk s6) hv
      have hp46 := s6 _ _ hp4
      clear hL hv hp4 nZ s6
      have mx := maxI_ok ot.length lo
      refine ⟨.ref d, rfl, .ref Z, rfl, Z, _, rfl, .inl (SqL.of hZ), _, _, rfl, d, c, _, rfl, D6, by rw [List.length_map]; exact mx.1, nb120 (by rw [List.length_map]; omega) (by rw [List.length_map]; omega), fun b H7 b0 b1 D7 K7 => ?_⟩
      rw [List.length_map] at b1
      have bl := mx.2.2 b b1
      obtain ⟨k2, rfl⟩ : ∃ k : Nat, b = (k : Int) := ⟨b.toNat, by omega⟩
      have kl2 : k2 ≤ ot.length := by omega
      have hZ7 := K7 _ _ Zd Zc hZ
      have hL7 := K7 _ _ Ld Lc hL6
      have hv7 := pairs_tk (K7.tk D6) hv6
      have hp47 := K7 _ _ p4d p4c hp46
      have K07 := K6.trans K7
      have tk07 := K07.tk D
      clear hZ hL6 hv6 hp46 D6 K6 K7 D5 K5 hnl5 b1 bl mx
      refine ⟨.ref tb, rfl, .ref Z, rfl, .int k2, rfl, k2, rfl, Z, _, rfl, SqL.of hZ7, fun p1 n1 => ⟨.ref Z, rfl, .int k2, rfl, k2, rfl, Z, _, rfl, SqL.of (same_new n1 _ _ hZ7), fun p2 n2 => ?_⟩⟩
      have s1 := same_new (o := .lst (cutV (ot.map V.int) (some (k2 : Int)) none)) n1
      have s2 := same_new (o := .lst (cutV (ot.map V.int) none (some (k2 : Int)))) n2
      have h1 := s2 _ _ (upd_same (H := H7) (a := p1) (o := .lst (cutV (ot.map V.int) (some (k2 : Int)) none)))
      have h2 := upd_same (H := upd H7 p1 (.lst (cutV (ot.map V.int) (some (k2 : Int)) none))) (a := p2) (o := .lst (cutV (ot.map V.int) none (some (k2 : Int))))
      have s12 := s1.trans s2
      generalize upd (upd H7 p1 (.lst (cutV (ot.map V.int) (some (k2 : Int)) none))) p2 (.lst (cutV (ot.map V.int) none (some (k2 : Int)))) = H8 at s12 h1 h2
      refine ⟨p1, p2, _, _, rfl, rfl, h1, h2, rot_len ot kl2 (by omega), fun p3 n3 => ?_⟩
      rw [rot_map ot kl2]
      have s3 := same_new (o := .lst ((rotI ot k2).map V.int)) n3
      have h3 := upd_same (H := H8) (a := p3) (o := .lst ((rotI ot k2).map V.int))
      have s79 := s12.trans s3
      generalize upd H8 p3 (.lst ((rotI ot k2).map V.int)) = H9 at s3 h3 s79
      clear s1 s2 h1 h2 s12 n1 n2 n3 s3
      have hor : ∀ o ∈ rotI ot k2, o ∈ nums ∧ o ≠ tie := fun o h => ho o ((rotI_perm ot k2).mem_iff.mp h)
      have tk09 : Tk H H9 := tk07.trans (Same.tk s79)
      have D9 := D7.same s79
      have K9 := K07.trans (Same.kp s79)
      have hL9 := s79 _ _ hL7
      have hv9 := pairs_tk (Same.tk s79) hv7
      have hp49 := s79 _ _ hp47
      clear hZ7 hL7 hv7 hp47 s79 tk07 D7 K07
      obtain ⟨u, eu, tc, rfl, htc⟩ := Paired.at' hpw (tieAt_get tr.1 tr.2)
      have okt := ok.ok _ (List.mem_of_getElem? (tieAt_get tr.1 tr.2))
      have aeu : atI us tie = some (.ref tc) := atI_of tr.1 eu
      refine ⟨.ref tb, rfl, .int tie, rfl, tb, us, tie, .ref tc, rfl, rfl, SqT.of (tk09 _ _ htb), aeu, tc, _, 0, .int (tieAt ts tie).one, rfl, rfl, SqT.of (tk09 _ _ htc), rfl, .ref tb, rfl, .int tie, rfl, tb, us, tie, .ref tc, rfl, rfl, SqT.of (tk09 _ _ htb), aeu, tc, _, 1, .int (tieAt ts tie).other, rfl, rfl, SqT.of (tk09 _ _ htc), rfl, ?_⟩
      refine ⟨tb, p3, us, ts, rotI ot k2, (tieAt ts tie).one, (tieAt ts tie).other, n, rfl, tk09 _ _ htb, ties_tk tk09 hpw, ok, h3, fun x hx => hnum x (hor x hx).1, ⟨okt.1, okt.2.1⟩, ⟨okt.2.2.1, okt.2.2.2.1⟩, fun H10 s10 => ?_, fun r pl el ps es H10 s10 hr hpl hel W npl nel => ?_⟩
      · refine ⟨.non, rfl, rfl, _, rfl, ?_⟩
        exact ⟨_, _, _, _, _, _, vs, xs, rfl, s10 _ _ hL9, pairs_tk (Same.tk s10) hv9, hR, by omega, s10 _ _ hp49, D9.same s10, K9.trans (Same.kp s10)⟩
      refine ⟨.ref r, rfl, rfl, _, rfl, ?_⟩
      have D10 := D9.same s10
      have K10 := K9.trans (Same.kp s10)
      have hL10 := s10 _ _ hL9
      have hv10 := pairs_tk (Same.tk s10) hv9
      have hp410 := s10 _ _ hp49
      have tk010 := tk09.trans (Same.tk s10)
      obtain ⟨pld, plc⟩ := D9.ned npl
      clear hL9 hv9 hp49 tk09 D9 K9 h3
      refine ⟨.ref r, rfl, r, _, 1, .ref el, rfl, rfl, SqT.of hr, rfl, .int tie, rfl, by show 1 ≤ sizeLine; decide, fun q1 m1 => ?_⟩
      have s11 := same_new (o := .lst [.int tie]) m1
      have hq1 := upd_same (H := H10) (a := q1) (o := .lst [.int tie])
      have hel11 := s11 _ _ hel
      generalize upd H10 q1 (.lst [.int tie]) = H11 at s11 hq1 hel11
      have wfew := W.few
      have wlen := W.len
      refine ⟨el, q1, _, _, rfl, rfl, hel11, hq1, by rw [List.length_map]; exact Nat.le_of_lt (small1000 (by simp only [List.length_singleton]; omega)), fun q2 m2 => ?_⟩
      have eQ : es.map V.int ++ [V.int tie] = (es ++ [tie]).map V.int := by rw [List.map_append]; rfl
      rw [eQ]
      have s12 := same_new (o := .lst ((es ++ [tie]).map V.int)) m2
      have hq2 := upd_same (H := H11) (a := q2) (o := .lst ((es ++ [tie]).map V.int))
      have s102 := s11.trans s12
      have q2c := ((D10.same s11).ned m2).2
      have q2d := ((D10.same s11).ned m2).1
      generalize upd H11 q2 (.lst ((es ++ [tie]).map V.int)) = H12 at s12 hq2 s102
      clear s11 hq1 hel11 m1 m2 s12
      have D12 := D10.same s102
      have K12 := K10.trans (Same.kp s102)
      have hL12 := s102 _ _ hL10
      have hv12 := pairs_tk (Same.tk s102) hv10
      have hp412 := s102 _ _ hp410
      have tk012 := tk010.trans (Same.tk s102)
      have hr12 := s102 _ _ hr
      have hpl12 := s102 _ _ hpl
      have esin : ∀ e ∈ es ++ [tie], 0 ≤ e ∧ e < (ts.length : Int) := fun e he => by
        rcases List.mem_append.mp he with h | h
        · obtain ⟨i, hi⟩ := List.getElem?_of_mem h
          have il := (List.getElem?_eq_some_iff.mp hi).1
          have := (W.st i e _ _ hi (List.getElem?_eq_getElem (show i < ps.length by omega)) (List.getElem?_eq_getElem (show i + 1 < ps.length by omega))).1
          exact hnum e (hor e this).1
        · rw [List.mem_singleton.mp h]
          exact tr
      have les : (es ++ [tie]).length = ps.length := by rw [List.length_append, wlen]; rfl
      clear hL10 hv10 hp410 tk010 hr hpl hel D10 K10 s102
      refine ⟨.ref q2, rfl, q2, rfl, ⟨_, SqL.of hq2⟩, fun Y nY => ?_⟩
      refine lc_list (K := K) (xs := (es ++ [tie]).map V.int) (fun i H' => ∃ zs : List V, H' Y = some (.lst zs) ∧ zs.length = foesI ts ((es ++ [tie]).take i) ∧ Same H12 H') ⟨[], upd_same, rfl, same_new nY⟩ (fun i H' _ h => by
        obtain ⟨_, _, _, s⟩ := h
        exact SqL.of (s _ _ hq2)) ?_ ?_
      · rintro i x H13 ei ⟨zs, hY, lz, s13⟩
        rw [List.getElem?_map] at ei
        obtain ⟨e, ee, rfl⟩ := Option.map_eq_some_iff.mp ei
        have il := (List.getElem?_eq_some_iff.mp ee).1
        have er := esin e (List.mem_of_getElem? ee)
        obtain ⟨u, eu2, ec, rfl, hec⟩ := Paired.at' hpw (tieAt_get er.1 er.2)
        have tk13 := tk012.trans (Same.tk s13)
        refine ⟨rfl, .ref tb, rfl, .int e, rfl, tb, us, e, .ref ec, rfl, rfl, SqT.of (tk13 _ _ htb), atI_of er.1 eu2, ec, _, 2, _, rfl, rfl, SqT.of (tk13 _ _ hec), rfl, rfl, _, rfl, ?_⟩
        have ef : foesI ts ((es ++ [tie]).take (i + 1)) = foesI ts ((es ++ [tie]).take i) + (if (tieAt ts e).foe = true then 1 else 0) := by
          unfold foesI
          rw [foesI_take ts _ ee, List.length_append]
          cases (tieAt ts e).foe <;> rfl
        have lf : foesI ts ((es ++ [tie]).take i) ≤ i := by
          unfold foesI
          have := List.length_filter_le (fun e => (tieAt ts e).foe) ((es ++ [tie]).take i)
          rw [List.length_take] at this
          omega
        cases hf : (tieAt ts e).foe with
        | true =>
          rw [hf, if_pos rfl] at ef
          exact ⟨.int e, rfl, zs, hY, small1000 (by omega), zs ++ [.int e], upd_same, by rw [List.length_append, ef, lz]; rfl, Same.mut s13 nY⟩
        | false =>
          rw [hf, if_neg (by decide)] at ef
          exact ⟨zs, hY, by rw [ef, lz]; rfl, s13⟩
      rintro H13 ⟨zs, hY, lz, s13⟩
      rw [List.length_map, List.take_length] at lz
      refine ⟨Y, _, rfl, .inl (SqL.of hY), _, 2, rfl, rfl, show (0 : Int) < 2 by decide, .int w0, rfl, rfl, _, rfl, ?_⟩
      rw [lz, decV]
      have D13 := D12.same s13
      have K13 := K12.trans (Same.kp s13)
      have hL13 := s13 _ _ hL12
      have hv13 := pairs_tk (Same.tk s13) hv12
      have hp413 := s13 _ _ hp412
      cases hw : decide ((foesI ts (es ++ [tie]) : Int) % 2 = w0) with
      | false => exact ⟨_, _, _, _, _, _, vs, xs, rfl, hL13, hv13, hR, by omega, hp413, D13, K13⟩
      | true =>
      have hw := of_decide_eq_true hw
      refine ⟨.ref L, rfl, .inl ⟨rfl, _, SqL.of hL13⟩, .ref d, rfl, .ref r, rfl, r, _, 0, .ref pl, rfl, rfl, SqT.of (s13 _ _ hr12), rfl, .ref q2, rfl, d, c, pl, q2, ps, es ++ [tie], rfl, D13, s13 _ _ hpl12, s13 _ _ hq2, by omega, by omega, les, plc, q2c, fun v k3 rev H14 kl3 hv' D14 K14 => ?_⟩
      have hL14 := K14 _ _ Ld Lc hL13
      have wlk : wk.length ≤ 200 := by omega
      refine ⟨L, vs, _, rfl, rfl, hL14, small1000 (by omega), ?_⟩
      have tk := tk_lst (ys := vs ++ [v]) hL14
      refine ⟨_, _, _, _, _, _, vs ++ [v], xs ++ [(turnP ps k3 rev, turnE (es ++ [tie]) k3 rev)], rfl, upd_same, Paired.snoc (pairs_tk (((K14.tk D13)).trans tk) hv13) (hv'.tk tk), fun x hx => ?_, by rw [List.length_append]; show vs.length + 1 ≤ _; omega, by rw [upd_ne Lp4.symm]; exact K14 _ _ p4d p4c hp413, D14.mut Ld Lc, (K13.trans K14).mut nL⟩
      rcases List.mem_append.mp hx with h | h
      · exact hR x h
      · rw [List.mem_singleton.mp h]
        exact ⟨ps, es, tie, k3, rev, rotI ot k2, W, hor, tn, kl3, rfl, hw⟩
    · rintro σ' H6 ⟨y7, y8, y9, y10, y11, y12, vs, xs, rfl, hL, hv, hR, lv, hp4, D6, K6⟩
      rw [List.length_map] at lv
      exact ⟨.ref L, rfl, q L vs xs _ hL hv hR (by omega) D6 K6 nL⟩
end
/-! ### papers: things of tuples -/
def rNeTE (K : PySem.W.Frag) : R2 := fun x y H Q => ∃ (a b : Addr) (xs : List V), x = .ref a ∧ y = .ref b ∧ SqT K H a xs ∧ SqT K H b [] ∧ Q (.bl (!xs.isEmpty)) H
theorem op_neTE {X : Cx} (hu : X.A.units < cLine) : OpR X (compareOp .NotEq) (rNeTE X.K) := by
  intro pins s σ H x y v u Q I rx ry h
  obtain ⟨a, b, xs, rfl, rfl, ha, hb, q⟩ := h
  obtain rfl : v = Value.ref a := rx
  obtain rfl : u = Value.ref b := ry
  obtain ⟨its, r1, p1, _⟩ := I.tuple ha
  obtain ⟨its2, r2, p2, _⟩ := I.tuple hb
  cases r2
  have e : ((List.range (min its.toArray.size ([] : List Value).toArray.size)).all (fun _ => true) && its.toArray.size == ([] : List Value).toArray.size) = xs.isEmpty := by
    have hl := r1.length
    cases xs with
    | nil =>
      have : its = [] := List.length_eq_zero_iff.mp (by rw [← hl]; rfl)
      rw [this]
      rfl
    | cons z zs =>
      cases its with
      | nil => simp at hl
      | cons w ws => simp
  exact SeqAt.RcNeAt.tuples (e := fun _ => true) p1 p2 hu (fun j _ h2 => absurd h2 (by simp)) _ _ _ _ ⟨.bl (!xs.isEmpty), H, I, by rw [e]; rfl, q⟩
theorem rgV_rng' (n : Nat) : rgV 0 (n : Int) = (rng n).map V.int := by
  unfold rgV rng
  rw [show ((n : Int) - 0).toNat = n by omega, List.map_map]
  exact List.map_congr_left fun i _ => by
    show V.int (0 + (i : Nat)) = V.int (i : Nat)
    rw [Int.zero_add]
/-- things of tuples alone, by depth -/
def FlV : V → Prop
  | .non => True
  | .bl _ => True
  | .int _ => True
  | .str _ => True
  | _ => False
def TuT : Nat → Hp → V → Prop
  | 0, _, v => FlV v
  | d + 1, H, v => FlV v ∨ ∃ a xs, v = .ref a ∧ H a = some (.tup xs) ∧ xs.length ≤ 1000 ∧ ∀ x ∈ xs, TuT d H x
theorem FlV.kn {H : Hp} {v : V} (h : FlV v) : Kn H v ∧ parts H v = none := by
  cases v with
  | ref a => exact h.elim
  | non => exact ⟨trivial, rfl⟩
  | bl => exact ⟨trivial, rfl⟩
  | int => exact ⟨trivial, rfl⟩
  | str => exact ⟨trivial, rfl⟩
  | _ => exact h.elim
theorem TuT.tk : ∀ {d : Nat} {H H' : Hp} {v : V}, Tk H H' → TuT d H v → TuT d H' v
  | 0, _, _, _, _, h => h
  | d + 1, H, H', v, k, h => by
    rcases h with h | ⟨a, xs, e, h1, l, h2⟩
    · exact .inl h
    · exact .inr ⟨a, xs, e, k _ _ h1, l, fun x hx => TuT.tk k (h2 x hx)⟩
theorem TuT.pap : ∀ {d : Nat} {H : Hp} {v : V}, TuT d H v → PapV d H v
  | 0, H, v, h => FlV.kn h
  | d + 1, H, v, h => by
    rcases h with h | ⟨a, xs, e, h1, l, h2⟩
    · exact ⟨(FlV.kn (H := H) h).1, fun xs e => by rw [(FlV.kn (H := H) h).2] at e; cases e⟩
    · subst e
      refine ⟨.inr (.inl ⟨xs, h1⟩), fun ys e => ?_⟩
      rw [parts_of' h1] at e
      cases e
      exact ⟨fun x hx => TuT.pap (h2 x hx), l⟩
theorem TuT.up : ∀ {d : Nat} {H : Hp} {v : V}, TuT d H v → TuT (d + 1) H v
  | 0, _, _, h => .inl h
  | d + 1, H, v, h => by
    rcases h with h | ⟨a, xs, e, h1, l, h2⟩
    · exact .inl h
    · exact .inr ⟨a, xs, e, h1, l, fun x hx => TuT.up (h2 x hx)⟩
theorem TuT.mono {d e : Nat} (l : d ≤ e) {H : Hp} {v : V} (h : TuT d H v) : TuT e H v := by
  induction l with
  | refl => exact h
  | step _ ih => exact ih.up
theorem TuT.tup {d : Nat} {H : Hp} {a : Addr} {xs : List V} (h : H a = some (.tup xs)) (l : xs.length ≤ 1000) (k : ∀ x ∈ xs, TuT d H x) : TuT (d + 1) H (.ref a) := .inr ⟨a, xs, rfl, h, l, k⟩
theorem TuT.int {d : Nat} {H : Hp} {i : Int} : TuT d H (.int i) := TuT.mono (Nat.zero_le d) (show FlV (.int i) from trivial)
theorem TuT.str {d : Nat} {H : Hp} {s : Str} : TuT d H (.str s) := TuT.mono (Nat.zero_le d) (show FlV (.str s) from trivial)
theorem TuT.ints {H : Hp} {a : Addr} {xs : List Int} (h : H a = some (.tup (xs.map V.int))) (l : xs.length ≤ 1000) : TuT 1 H (.ref a) := .tup h (by rw [List.length_map]; exact l) fun x hx => by
  obtain ⟨z, _, rfl⟩ := List.mem_map.mp hx
  exact .int
theorem TuT.two {d : Nat} {H : Hp} {a : Addr} {x y : V} (h : H a = some (.tup [x, y])) (hx : TuT d H x) (hy : TuT d H y) : TuT (d + 1) H (.ref a) := .tup h (by show 2 ≤ 1000; decide) fun z hz => by
  rcases List.mem_cons.mp hz with h | hz
  · rw [h]; exact hx
  · rw [List.mem_singleton.mp hz]; exact hy
theorem turn_len {x : List Int × List Int} {ts : List Tie} {nums : List Int} {n w : Int} (h : RingD ts nums n w x) : x.1.length ≤ 1000 ∧ x.2.length ≤ 1000 := by
  obtain ⟨ps, es, tie, k, rev, others, W, _, _, _, rfl, _⟩ := h
  have few := W.few
  have len := W.len
  have := (turnP_perm ps k rev).length_eq
  have e2 := (turnE_perm (es ++ [tie]) k rev).length_eq
  rw [List.length_append] at e2
  show (turnP ps k rev).length ≤ 1000 ∧ (turnE (es ++ [tie]) k rev).length ≤ 1000
  have : [tie].length = 1 := rfl
  omega
theorem PairT.tut {H : Hp} {v : V} {x : List Int × List Int} {ts : List Tie} {nums : List Int} {n w : Int} (h : PairT H v x) (r : RingD ts nums n w x) : TuT 2 H v := by
  obtain ⟨a, pa, ta, rfl, h1, h2, h3⟩ := h
  exact .two h1 (.ints h2 (turn_len r).1) (.ints h3 (turn_len r).2)
theorem atInts (xs : List Int) {i : Int} (h0 : 0 ≤ i) (h1 : i < (xs.length : Int)) : ∃ u, atI (xs.map V.int) i = some (.int u) := by
  obtain ⟨u, e1, e2⟩ := getI (xs := xs.map V.int) h0 (by rw [List.length_map]; exact h1)
  rw [List.getElem?_map] at e2
  obtain ⟨z, _, rfl⟩ := Option.map_eq_some_iff.mp e2
  exact ⟨z, e1⟩
theorem TuT.tks {e : Nat} {H H' : Hp} (k : Tk H H') {vs : List V} (h : ∀ v ∈ vs, TuT e H v) : ∀ v ∈ vs, TuT e H' v := fun v hv => (h v hv).tk k
theorem TuT.snoc {e : Nat} {H : Hp} {vs : List V} {v : V} (h : ∀ v ∈ vs, TuT e H v) (hv : TuT e H v) : ∀ x ∈ vs ++ [v], TuT e H x := fun x hx => (List.mem_append.mp hx).elim (h x) fun z => by rw [List.mem_singleton.mp z]; exact hv
theorem WebLo.snoc {n : Int} {ts su : List Tie} {x y : Int} {kd : Bool} (h : WebLo n (ts ++ su)) (l : (ts ++ su).length < 120) (hx : 0 ≤ x ∧ x < n) (hy : 0 ≤ y ∧ y < n) : WebLo n (ts ++ (su ++ [⟨x, y, kd⟩])) := by
  rw [← List.append_assoc]
  refine ⟨h.lo, h.hi, by rw [List.length_append, List.length_singleton]; omega, fun t ht => ?_⟩
  rcases List.mem_append.mp ht with z | z
  · exact h.ok t z
  · rw [List.mem_singleton.mp z]
    exact ⟨hx.1, hx.2, hy.1, hy.2, trivial⟩
/-! ### papers: rows of rings drawn so that they hold -/
theorem tk_ot {H : Hp} {l : Addr} {o o' : HO} (h : H l = some o) (no : ∀ xs, o ≠ .tup xs) : Tk H (upd H l o') := fun b zs e => by
  rw [upd_ne (ne_of e h (by intro z; exact no _ z.symm))]
  exact e
theorem WayR.ties {ts : List Tie} {nums : List Int} {n b e : Int} {ps es : List Int} (W : WayR ts nums n b e ps es) : es.Nodup := by
  refine List.pairwise_iff_getElem.mpr fun i j hi hj ij z => ?_
  have len := W.len
  have nd : ∀ i j : Nat, i < ps.length → ps[i]? = ps[j]? → i = j := fun i j h e => (List.getElem?_inj h W.nd).mp e
  have gi : ∀ k, k < ps.length → ∃ x, ps[k]? = some x := fun k h => ⟨ps[k], List.getElem?_eq_getElem h⟩
  obtain ⟨x, ex⟩ := gi i (by omega)
  obtain ⟨y, ey⟩ := gi (i + 1) (by omega)
  obtain ⟨u, eu⟩ := gi j (by omega)
  obtain ⟨v, ev⟩ := gi (j + 1) (by omega)
  have h1 := (W.st i _ x y (List.getElem?_eq_getElem hi) ex ey).2
  have h2 := (W.st j _ u v (List.getElem?_eq_getElem hj) eu ev).2
  rw [← z] at h2
  have ux : u ≠ x := fun q => by
    have := nd i j (by omega) (by rw [ex, eu, q])
    omega
  have vx : v ≠ x := fun q => by
    have := nd i (j + 1) (by omega) (by rw [ex, ev, q])
    omega
  have vy : v ≠ y := fun q => by
    have := nd (i + 1) (j + 1) (by omega) (by rw [ey, ev, q])
    omega
  unfold joinB at h1 h2
  simp only [Bool.or_eq_true, Bool.and_eq_true, decide_eq_true_iff] at h1 h2
  omega
theorem RingD.nd {x : List Int × List Int} {ts : List Tie} {nums : List Int} {n w : Int} (h : RingD ts nums n w x) : x.2.Nodup ∧ (∀ e ∈ x.2, e ∈ nums) ∧ 0 < x.2.length ∧ x.2.length ≤ 41 := by
  obtain ⟨ps, es, tie, k, rev, others, W, ho, ht, kl, rfl, _⟩ := h
  have pm := turnE_perm (es ++ [tie]) k rev
  have few := W.few
  have len := W.len
  have eo : ∀ e ∈ es, e ∈ others := fun e he => by
    obtain ⟨i, hi⟩ := List.getElem?_of_mem he
    have il := (List.getElem?_eq_some_iff.mp hi).1
    exact (W.st i e _ _ hi (List.getElem?_eq_getElem (show i < ps.length by omega)) (List.getElem?_eq_getElem (show i + 1 < ps.length by omega))).1
  have l2 := pm.length_eq
  rw [List.length_append, List.length_singleton] at l2
  refine ⟨pm.nodup_iff.mpr (List.nodup_append.mpr ⟨W.ties, by simp, fun a ha b hb e => ?_⟩), fun e he => ?_, by show 0 < (turnE (es ++ [tie]) k rev).length; omega, by show (turnE (es ++ [tie]) k rev).length ≤ 41; omega⟩
  · rw [List.mem_singleton.mp hb] at e
    exact (ho a (eo a ha)).2 e
  · rcases List.mem_append.mp (pm.mem_iff.mp he) with h | h
    · exact (ho e (eo e h)).1
    · rw [List.mem_singleton.mp h]
      exact ht
def RowP (H : Hp) (v : V) (x : (List Int × List Int) × Int) : Prop := ∃ a ra, v = .ref a ∧ H a = some (.tup [.ref ra, .int x.2]) ∧ PairT H (.ref ra) x.1
theorem RowP.tk {H H' : Hp} (k : Tk H H') {v : V} {x : (List Int × List Int) × Int} (h : RowP H v x) : RowP H' v x := by
  obtain ⟨a, ra, e, h1, h2⟩ := h
  exact ⟨a, ra, e, k _ _ h1, h2.tk k⟩
theorem rowsP_tk {H H' : Hp} (k : Tk H H') {vs : List V} {xs : List ((List Int × List Int) × Int)} (h : Paired (RowP H) vs xs) : Paired (RowP H') vs xs := Paired.mono (fun _ _ x => x.tk k) h
abbrev RwD := (List Int × List Int) × Int
def loadD (xs : List RwD) (e : Int) : Int := loadR (xs.map fun x => (x.1.2, x.2)) e
theorem sum_permI {xs ys : List Int} (h : xs.Perm ys) : xs.sum = ys.sum := by
  induction h with
  | nil => rfl
  | cons x _ ih => rw [List.sum_cons, List.sum_cons, ih]
  | swap x y l => rw [List.sum_cons, List.sum_cons, List.sum_cons, List.sum_cons]; omega
  | trans _ _ a b => exact a.trans b
theorem loadD_perm {xs ys : List RwD} (h : xs.Perm ys) (e : Int) : loadD xs e = loadD ys e := by
  unfold loadD loadR
  exact sum_permI ((h.map _).map _)
theorem loadD_cons (x : RwD) (xs : List RwD) (e : Int) : loadD (x :: xs) e = (if e ∈ x.1.2 then x.2 else 0) + loadD xs e := by
  unfold loadD loadR
  rw [List.map_cons, List.map_cons, List.sum_cons]
def sureN (m k : Nat) : List Int := (List.range k).map fun i => (m : Int) + (i : Nat)
theorem sureN_mem {m k : Nat} {x : Int} : x ∈ sureN m k ↔ (m : Int) ≤ x ∧ x < (m : Int) + k := by
  unfold sureN
  rw [List.mem_map]
  constructor
  · rintro ⟨i, hi, rfl⟩
    have := List.mem_range.mp hi
    omega
  · intro h
    exact ⟨(x - m).toNat, List.mem_range.mpr (by omega), by omega⟩
theorem rgV_sure (m k : Nat) : rgV (m : Int) ((m : Int) + (k : Int)) = (sureN m k).map V.int := by
  unfold rgV sureN
  rw [show ((m : Int) + (k : Int) - (m : Int)).toNat = k by omega, List.map_map]
  rfl
structure RowsD (ts su : List Tie) (n : Int) (given : List Int) (g : Int → Int) (xs : List RwD) : Prop where
  ring : ∀ x ∈ xs, RingD (ts ++ su) (given ++ sureN ts.length su.length) n 1 x.1 ∧ 1 ≤ x.2
  load : ∀ e ∈ given, loadD xs e ≤ 2 * g e
def spPRows : Sp := fun vs H Q _ => ∃ (d c sb gb : Addr) (wv : V) (n : Int) (ts su : List Tie) (g : Int → Int) (given : List Int) (most : Int), vs = [.ref d, wv, .ref sb, .ref gb, .int most] ∧ Deck H d c ∧ WorldAt H wv n ts g ∧ TiesAt H sb su ∧ WebLo n (ts ++ su) ∧ H gb = some (.tup (given.map V.int)) ∧ given.Nodup ∧ (∀ e ∈ given, 0 ≤ e ∧ e < (ts.length : Int)) ∧ (∀ e ∈ given, 1 ≤ g e) ∧ 0 ≤ most ∧ most ≤ 200 ∧
  ∀ r vs xs H', H' r = some (.tup vs) → Paired (RowP H') vs xs → RowsD ts su n given g xs → (vs.length : Int) ≤ most → Deck H' d c → Kp d c H H' → Q (.ref r) H'
theorem ask_weight {H : Hp} {wt : V} {m : Nat} {g : Int → Int} (h : Wts H wt (rng m) g) {e : Int} (h0 : 0 ≤ e) (h1 : e < (m : Int)) {Q : VK} {E : XK} (q : Q (.int (g e)) H) : spLWeight [wt, .int e] H Q E := by
  rcases h with ⟨rfl, hg⟩ | ⟨a, ws, rfl, ha, hw⟩
  · refine .inl ⟨e, rfl, ?_⟩
    rw [← hg e (mem_rng.mpr ⟨h0, h1⟩)]
    exact q
  · obtain ⟨hr, hg⟩ := hw e (mem_rng.mpr ⟨h0, h1⟩)
    refine .inr ⟨a, ws.map V.int, e, .int (gW ws e), rfl, ha, gW_at hr.1 hr.2, ?_⟩
    rw [← hg]
    exact q
theorem Paired.takeF {α β : Type} {R : α → β → Prop} : ∀ {xs : List α} {ys : List β} (k : Nat), Paired R xs ys → Paired R (xs.take k) (ys.take k)
  | _, _, 0, _ => .nil
  | _, _, _ + 1, .nil => .nil
  | _, _, k + 1, .cons a t => .cons a (Paired.takeF k t)
theorem Paired.dropF {α β : Type} {R : α → β → Prop} : ∀ {xs : List α} {ys : List β} (k : Nat), Paired R xs ys → Paired R (xs.drop k) (ys.drop k)
  | _, _, 0, h => h
  | _, _, _ + 1, .nil => .nil
  | _, _, k + 1, .cons _ t => Paired.dropF k t
theorem upd_fun {H H' : Hp} {R : Addr} {o : HO} (h : H' R = some o) (e : ∀ b, b ≠ R → H' b = H b) : H' = upd H R o := by
  funext b
  by_cases hb : b = R
  · rw [hb, upd_same, h]
  · rw [upd_ne hb, e b hb]
theorem merge_kvI (f : Int → Int) : ∀ (ks acc : List Int), (acc ++ ks).Nodup → mergeK (kvI acc f) (kvI ks f) = kvI (acc ++ ks) f
  | [], acc, _ => by rw [List.append_nil]; rfl
  | k :: ks, acc, nd => by
    show mergeK (putK (kvI acc f) (Sum.inl k) (.int (f k))) (kvI ks f) = _
    have hk : k ∉ acc := fun h => by
      have := (List.nodup_append.mp nd).2.2 k h k List.mem_cons_self
      exact this rfl
    rw [kvI_put (f := f) (g := f) (fun z => by split <;> rename_i h <;> first | rw [h] | rfl)]
    unfold addI
    rw [if_neg hk]
    have e : acc ++ k :: ks = (acc ++ [k]) ++ ks := by simp
    rw [e] at nd ⊢
    exact merge_kvI f ks (acc ++ [k]) nd
section
variable {P : Program} {w : World} {K : PySem.W.Frag} {mg : Str → Option Value} {base : Heap}
set_option maxHeartbeats 8000000 in
theorem ok_l_ring_rows {f : Addr} {fd : FuncData} (F : Fun K "_law_ring_rows" "_law_ring_rows" s_l_ring_rows f fd) (M : Free mg) (m_dict : mg "dict" = none) (m_min : mg "min" = none) (D_l_weight : Df P w K mg base 1 "_law_weight" ["_law_weights_here", "_law_tie"] spLWeight) (D_l_rings : Df P w K mg base 3 "_law_rings" ["_law_feed_here", "_law_ties", "_law_numbers", "_law_wanted", "_law_most"] spPRings) (D_l_draw : Df P w K mg base 1 "_law_draw" ["_law_feed_here", "_law_most"] spDraw) : FnOk P w K mg base CX0 4 f fd ["_law_feed_here", "_law_world_here", "_law_sure", "_law_given", "_law_most"] spPRows := by
  obtain ⟨f_l_weight, fd_l_weight, G_l_weight, g_l_weight, k_l_weight, b_l_weight⟩ := D_l_weight
  obtain ⟨f_l_rings, fd_l_rings, G_l_rings, g_l_rings, k_l_rings, b_l_rings⟩ := D_l_rings
  obtain ⟨f_l_draw, fd_l_draw, G_l_draw, g_l_draw, k_l_draw, b_l_draw⟩ := D_l_draw
  refine F.ok sc_l_ring_rows (fun vs H Q E h => ?_) (fun cdv A outer s H vs Q E hr h => ?_)
  · obtain ⟨d, c, sb, gb, wv, n, ts, su, g, given, most, rfl, _⟩ := h
    rfl
  · obtain ⟨d, c, sb, gb, wv, n, ts, su, g, given, most, rfl, D, Wd, Su, lo, hgb, ngv, gin, gpos, m0, m200, q⟩ := h
    have hu := room1 hr
    refine ⟨_, (pss_cons (ps_asg (pv 1) (pg_tup rfl (pgs_cons (pg_name (i := 5) sc_l_ring_rows.nd rfl (.inl rfl)) (pgs_cons (pg_name (i := 6) sc_l_ring_rows.nd rfl (.inl rfl)) (pgs_cons (pg_name (i := 7) sc_l_ring_rows.nd rfl (.inr rfl)) pgs_nil)))))
      (pss_cons (ps_set (i := 8) sc_l_ring_rows.nd rfl (.inl rfl) (pe_op op_cat (pe_callTy call_list_of (by rfl) M.list (by decide +kernel) (pa_cons (pv 3) pa_nil)) (pe_listRg rfl (by rfl) M.list (prg_2 (by rfl) M.range (pe_callB call_len_seq (by rfl) M.len PySem.boot_len (pa_cons (pv 6) pa_nil)) (pe_op op_add (pe_callB call_len_seq (by rfl) M.len PySem.boot_len (pa_cons (pv 6) pa_nil)) (pe_callB call_len_seq (by rfl) M.len PySem.boot_len (pa_cons (pv 2) pa_nil)))))))
      (pss_cons (ps_set (i := 9) sc_l_ring_rows.nd rfl (.inr rfl) (pe_callTy (call_dictP rfl) (by rfl) m_dict (by decide +kernel) (pa_cons (pe_lc (own := [("_law_tie", 10)]) (g := (gName 10)) (tt := tYes) rfl sc_l_ring_rows.nd (pi_tup (pv 3)) (blkOk_by (N := N_l_ring_rows) (sc := defScope s_l_ring_rows) (own := [("_law_tie", 10)]) (by decide +kernel)) (fun _ _ _ _ _ => (pg_name (i := 10) sc_l_ring_rows.nd rfl (.inl rfl))) (fun _ _ _ _ _ => pts_nil) (fun _ _ _ _ _ => (pe_tup (pa_cons (pv 10) (pa_cons (pe_op op_mul pe_int (pe_call G_l_weight (hr.mono (by decide)) (by rfl) g_l_weight k_l_weight b_l_weight .nil pass0 (pa_cons (pv 7) (pa_cons (pv 10) pa_nil)))) pa_nil))))) pa_nil)))
      (pss_cons (ps_set (i := 11) sc_l_ring_rows.nd rfl (.inl rfl) (pe_lst pa_nil))
      (pss_cons (ps_for PassesOwn.never rfl (pi_list (pe_call G_l_rings (hr.mono (by decide)) (by rfl) g_l_rings k_l_rings b_l_rings .nil pass0 (pa_cons (pv 0) (pa_cons (pe_op op_catU (pv 6) (pv 2)) (pa_cons (pv 8) (pa_cons pe_int (pa_cons (pv 4) pa_nil))))))) (pg_name (i := 12) sc_l_ring_rows.nd rfl (.inl rfl))
        (pss_cons (ps_set (i := 13) sc_l_ring_rows.nd rfl (.inl rfl) (pe_callB (cr_min rfl) (by rfl) m_min (by decide +kernel) (pa_cons (pe_lc (own := [("_law_tie", 10)]) (g := (gName 10)) (tt := tYes) rfl sc_l_ring_rows.nd (pi_tup (pe_ix ix_tup (pv 12) pe_int (fun _ _ => rfl))) (blkOk_by (N := N_l_ring_rows) (sc := defScope s_l_ring_rows) (own := [("_law_tie", 10)]) (by decide +kernel)) (fun _ _ _ _ _ => (pg_name (i := 10) sc_l_ring_rows.nd rfl (.inl rfl))) (fun _ _ _ _ _ => pts_nil) (fun _ _ _ _ _ => (pe_dget2 hu (pv 9) (pv 10) (pe_op op_pow pe_int pe_int) ⟨rfl, rfl, rfl, rfl⟩))) pa_nil)))
        (pss_one (ps_if (PW.pt (pw_and (pt_cmpR op_gt (pv 13) pe_int (nomark _)) (pw_and1 (pt_cmpR op_gt (pe_call G_l_draw (hr.mono (by decide)) (by rfl) g_l_draw k_l_draw b_l_draw .nil pass0 (pa_cons (pv 0) (pa_cons pe_int pa_nil))) pe_int (nomark _)))))
          (pss_cons (ps_set (i := 14) sc_l_ring_rows.nd rfl (.inl rfl) (pe_ix ix_list (pe_lst (pa_cons (pv 13) (pa_cons pe_int (pa_cons (pe_op op_fdiv (pe_op op_add (pv 13) pe_int) pe_int) pa_nil)))) (pe_call G_l_draw (hr.mono (by decide)) (by rfl) g_l_draw k_l_draw b_l_draw .nil pass0 (pa_cons (pv 0) (pa_cons pe_int pa_nil))) (fun _ _ => rfl)))
          (pss_cons (ps_for PassesOwn.never rfl (pi_tup (pe_ix ix_tup (pv 12) pe_int (fun _ _ => rfl))) (pg_name (i := 10) sc_l_ring_rows.nd rfl (.inl rfl))
            (pss_one (ps_if (pt_cmp (pc_din hu (pv 10) (pv 9)))
              (pss_one (ps_dput hu (pv 9) (pv 10) (pe_op op_sub (pe_dget hu (pv 9) (pv 10) (fun _ _ => rfl)) (pv 14)) rfl))
              pss_nil)))
          (pss_one (ps_expr (pe_bm PySem.F.plainAttrs_list PySem.F.slot_list_insert PySem.F.type_list_insert mt_insert (pv 11) (pa_cons (pe_call G_l_draw (hr.mono (by decide)) (by rfl) g_l_draw k_l_draw b_l_draw .nil pass0 (pa_cons (pv 0) (pa_cons (pe_op op_add (pe_callB call_len_seq (by rfl) M.len PySem.boot_len (pa_cons (pv 11) pa_nil)) pe_int) pa_nil))) (pa_cons (pe_tup (pa_cons (pv 12) (pa_cons (pv 14) pa_nil))) pa_nil)))))))
          pss_nil))))
      (pss_one (ps_ret (pe_callTy call_tuple_of (by rfl) M.tuple (by decide +kernel) (pa_cons (pv 11) pa_nil))))))))), ?_⟩
    obtain ⟨wa, tb, wt, us, rfl, hwa, htb, hp, hwt⟩ := id Wd.ex
    obtain ⟨us2, hsb, hp2⟩ := id Su
    have few := lo.few
    rw [List.length_append] at few
    have l1 := Paired.length hp
    have l2 := Paired.length hp2
    have lg : given.length ≤ ts.length := pigeon49 given ngv gin
    refine ⟨.ref wa, rfl, wa, _, rfl, SqT.of hwa, rfl, _, _, rfl, _, _, rfl, _, _, rfl, rfl, ?_⟩
    refine ⟨.ref gb, rfl, gb, _, rfl, .inr (SqT.of hgb), fun N1 nN1 => ?_⟩
    have s1 := same_new (o := .lst (given.map V.int)) nN1
    have h1 := upd_same (H := H) (a := N1) (o := .lst (given.map V.int))
    generalize upd H N1 (.lst (given.map V.int)) = H1 at s1 h1
    refine ⟨.ref tb, rfl, tb, us, rfl, .inr (SqT.of (s1 _ _ htb)), .ref tb, rfl, tb, us, rfl, .inr (SqT.of (s1 _ _ htb)), .ref sb, rfl, sb, us2, rfl, .inr (SqT.of (s1 _ _ hsb)), _, _, rfl, rfl, _, _, rfl, rfl, RgOk.of_le (by omega) (by omega) (by omega) (by omega), fun N2 nN2 => ?_⟩
    rw [l1, l2, rgV_sure]
    have s2 := same_new (o := .lst ((sureN ts.length su.length).map V.int)) nN2
    have h2 := upd_same (H := H1) (a := N2) (o := .lst ((sureN ts.length su.length).map V.int))
    have h12 := s2 _ _ h1
    have s12 := s1.trans s2
    generalize upd H1 N2 (.lst ((sureN ts.length su.length).map V.int)) = H2 at s12 h2 h12
    clear s1 h1 nN1 s2 nN2
    have lsn : (sureN ts.length su.length).length = su.length := by unfold sureN; rw [List.length_map, List.length_range]
    refine ⟨N1, N2, _, _, rfl, rfl, h12, h2, by rw [List.length_map, List.length_map, lsn]; exact Nat.le_of_lt (small1000 (by omega)), fun N nN => ?_⟩
    rw [← List.map_append]
    have s3 := same_new (o := .lst ((given ++ sureN ts.length su.length).map V.int)) nN
    have hN := upd_same (H := H2) (a := N) (o := .lst ((given ++ sureN ts.length su.length).map V.int))
    have s03 := s12.trans s3
    obtain ⟨Nd, Nc⟩ := (D.same s12).ned nN
    generalize upd H2 N (.lst ((given ++ sureN ts.length su.length).map V.int)) = H3 at s03 hN
    clear s12 h2 h12 s3 nN
    refine ⟨.ref gb, rfl, gb, rfl, ⟨_, SqT.of (s03 _ _ hgb)⟩, fun Z nZ => ?_⟩
    refine lc_tup (K := K) (xs := given.map V.int) (fun i H' => ∃ as : List Addr, H' Z = some (.lst (as.map V.ref)) ∧ Paired (fun p (kv : Key × V) => H' p = some (.tup [kV kv.1, kv.2])) as (kvI (given.take i) fun e => 2 * g e) ∧ Same H3 H') ⟨[], upd_same, .nil, same_new nZ⟩ (fun i H' _ h => by
      obtain ⟨_, _, _, s⟩ := h
      exact SqT.of (s _ _ (s03 _ _ hgb))) ?_ ?_
    · rintro i x H4 ei ⟨as, hZ, hpa, s4⟩
      rw [List.getElem?_map] at ei
      obtain ⟨e, ee, rfl⟩ := Option.map_eq_some_iff.mp ei
      have il := (List.getElem?_eq_some_iff.mp ee).1
      have ge := gin e (List.mem_of_getElem? ee)
      have la := Paired.length hpa
      unfold kvI at la
      rw [List.length_map, List.length_take] at la
      refine ⟨rfl, .int e, rfl, wt, rfl, .int e, rfl, ?_⟩
      unfold tNil
      show (spLWeight ([wt, .int e] ++ []) H4 _ _)
      refine ask_weight (hwt.tk (Same.tk (s03.trans s4))) ge.1 ge.2 ⟨_, _, rfl, rfl, .inl ⟨by decide, by decide⟩, by show 2 ≤ sizeLine; decide, fun p np => ?_⟩
      have s5 := same_new (o := .tup [.int e, .int (2 * g e)]) np
      have hp5 := upd_same (H := H4) (a := p) (o := .tup [.int e, .int (2 * g e)])
      have hZ5 := s5 _ _ hZ
      refine ⟨_, hZ5, by rw [List.length_map]; exact small1000 (by omega), as ++ [p], by rw [upd_same, List.map_append]; rfl, ?_, Same.mut (s4.trans s5) nZ⟩
      have tk := tk_lst (ys := (as.map V.ref) ++ [.ref p]) hZ5
      rw [show kvI (given.take (i + 1)) (fun e => 2 * g e) = kvI (given.take i) (fun e => 2 * g e) ++ [(Sum.inl e, .int (2 * g e))] by
        unfold kvI
        rw [List.take_add_one, ee, List.map_append]
        rfl]
      exact Paired.snoc (Paired.mono (fun _ _ h => tk _ _ (s5 _ _ h)) hpa) (tk _ _ hp5)
    rintro H4 ⟨as, hZ, hpa, s4⟩
    rw [List.length_map, List.take_length] at hpa
    refine ⟨Z, as, _, rfl, SqL.of hZ, Paired.mono (fun _ _ h => SqT.of h) hpa, fun R nR => ?_⟩
    rw [show mergeK [] (kvI given fun e => 2 * g e) = kvI given (fun e => 2 * g e) from (merge_kvI _ given [] ngv)]
    have s04 := s03.trans s4
    have s5 := same_new (o := .dK (kvI given fun e => 2 * g e)) nR
    have hR := upd_same (H := H4) (a := R) (o := .dK (kvI given fun e => 2 * g e))
    obtain ⟨Rd, Rc⟩ := (D.same s04).ned nR
    have nR0 := (Same.kp (d := d) (c := c) s04).free nR Rd Rc
    have hN5 := s5 _ _ (s4 _ _ hN)
    have RN : R ≠ N := (ne_of_none (s4 _ _ hN) nR).symm
    have s05 := s04.trans s5
    generalize upd H4 R (.dK (kvI given fun e => 2 * g e)) = H5 at s05 hR hN5
    clear s04 s5 s4 hZ hpa nZ nR hN s03
    refine ⟨Nat.zero_le _, fun L nL => ?_⟩
    have s6 := same_new (o := .lst []) nL
    have hL := upd_same (H := H5) (a := L) (o := .lst [])
    obtain ⟨Ld, Lc⟩ := (D.same s05).ned nL
    have nL0 := (Same.kp (d := d) (c := c) s05).free nL Ld Lc
    have hR6 := s6 _ _ hR
    have hN6 := s6 _ _ hN5
    have RL : R ≠ L := ne_of_none hR nL
    have s06 := s05.trans s6
    generalize upd H5 L (.lst []) = H6 at s06 hL hR6 hN6
    clear s05 s6 nL hR hN5
    refine ⟨.ref d, rfl, .ref tb, rfl, .ref sb, rfl, tb, sb, us, us2, rfl, rfl, s06 _ _ htb, s06 _ _ hsb, by omega, fun T H7 s7 hT => ?_⟩
    have s07 := s06.trans s7
    refine ⟨.ref N, rfl, .int most, rfl, d, c, T, N, us ++ us2, ts ++ su, given ++ sureN ts.length su.length, 1, most, n, rfl, D.same s07, hT, ties_tk (Same.tk s07) (Paired.app2F hp hp2), lo, s7 _ _ hN6, Nc, fun x hx => ?_, by rw [List.length_append, lsn]; omega, m0, m200, fun r vs xs H8 hr hv hX lv D8 K8 nr => ?_⟩
    · rw [List.length_append]
      rcases List.mem_append.mp hx with h | h
      · have := gin x h
        omega
      · have := sureN_mem.mp h
        omega
    have D7 := D.same s07
    have K08 := (Same.kp (d := d) (c := c) s07).trans K8
    obtain ⟨rd, rc⟩ := D7.ned nr
    have hL8 := K8 _ _ Ld Lc (s7 _ _ hL)
    have hR8 := K8 _ _ Rd Rc (s7 _ _ hR6)
    have rL : r ≠ L := (ne_of_none (s7 _ _ hL) nr).symm
    have rR : r ≠ R := (ne_of_none (s7 _ _ hR6) nr).symm
    clear K8 D7 s07 s7 hT nr hN6 hL hR6 s06
    refine ⟨r, rfl, ⟨_, SqL.of hr⟩, ?_⟩
    refine for_list (xs := vs) (fun j σ' H' => ∃ (y10 y12 y13 y14 : Option V) (room : Int → Int) (rs : List V) (rx : List RwD), σ' = [some (.ref d), some (.ref wa), some (.ref sb), some (.ref gb), some (.int most), some (.int n), some (.ref tb), some wt, some (.ref N), some (.ref R), y10, some (.ref L), y12, y13, y14] ∧ H' R = some (.dK (kvI given room)) ∧ (∀ e ∈ given, 0 ≤ room e ∧ room e = 2 * g e - loadD rx e) ∧ H' L = some (.lst rs) ∧ Paired (RowP H') rs rx ∧ (∀ x ∈ rx, RingD (ts ++ su) (given ++ sureN ts.length su.length) n 1 x.1 ∧ 1 ≤ x.2) ∧ rs.length ≤ j ∧ H' r = some (.lst vs) ∧ Paired (PairT H') vs xs ∧ Deck H' d c ∧ Kp d c H H') ⟨none, none, none, none, fun e => 2 * g e, [], [], rfl, hR8, fun e he => ⟨by have := gpos e he; show 0 ≤ 2 * g e; omega, by show 2 * g e = 2 * g e - 0; omega⟩, hL8, .nil, fun x h => (by cases h), Nat.le_refl _, hr, hv, D8, K08⟩ (fun j σ' H' _ h => by
      obtain ⟨_, _, _, _, _, _, _, _, _, _, _, _, _, _, h, _⟩ := h
      exact SqL.of h) ?_ ?_
    · clear hL8 hR8 hr hv D8 K08
      rintro j v σ' H9 ev ⟨y10, y12, y13, y14, room, rs, rx, rfl, hR, hroom, hL, hrs, hrx, lrs, hr, hv, D9, K9⟩
      have jl := (List.getElem?_eq_some_iff.mp ev).1
      obtain ⟨x, ex, a, pa, ta, rfl, ha, hpa, hta⟩ := Paired.at hv ev
      have hRx := hX x (List.mem_of_getElem? ex)
      obtain ⟨xnd, xin, xpos, x41⟩ := hRx.nd
      refine ⟨.ref a, rfl, a, _, 1, .ref ta, rfl, rfl, SqT.of ha, rfl, ta, rfl, ⟨_, SqT.of hta⟩, fun Z nZ => ?_⟩
      obtain ⟨ask, hask⟩ : ∃ ask : Int → Int, ∀ e, ask e = if e ∈ given then room e else (10 : Int) ^ (40 : Int).toNat := ⟨_, fun _ => rfl⟩
      refine lc_tup (K := K) (xs := x.2.map V.int) (fun i H' => H' Z = some (.lst ((x.2.take i).map fun e => V.int (ask e))) ∧ Same H9 H') ⟨upd_same, same_new nZ⟩ (fun i H' _ h => SqT.of (h.2 _ _ hta)) ?_ ?_
      · rintro i w H10 ei ⟨hZ, s10⟩
        rw [List.getElem?_map] at ei
        obtain ⟨e, ee, rfl⟩ := Option.map_eq_some_iff.mp ei
        have il := (List.getElem?_eq_some_iff.mp ee).1
        have g1 : DGet H10 R (.int e) (valV (kvI given room) (Sum.inl e)) := DGet.k (k := Sum.inl e) (s10 _ _ hR)
        refine ⟨rfl, .ref R, rfl, R, rfl, .inl ⟨_, .inl (s10 _ _ hR)⟩, .int e, rfl, 10, 40, rfl, rfl, ⟨by decide, by decide, by decide⟩, _, g1, ?_⟩
        refine ⟨_, hZ, by rw [List.length_map, List.length_take]; exact small1000 (by omega), ?_, Same.mut s10 nZ⟩
        rw [upd_same, List.take_add_one, ee, List.map_append, kvI_val]
        show some (HO.lst (_ ++ [_])) = some (HO.lst (_ ++ [V.int (ask e)]))
        rw [hask e]
        by_cases h : e ∈ given
        · rw [if_pos h, if_pos h]; rfl
        · rw [if_neg h, if_neg h]; rfl
      rintro H10 ⟨hZ, s10⟩
      rw [List.length_map, List.take_length] at hZ
      refine ⟨Z, x.2.map ask, rfl, SqL.of (by rw [hZ, List.map_map]; rfl), by rw [List.length_map]; exact xpos, fun m hm hmin => ?_⟩
      have mle : ∀ e ∈ x.2, e ∈ given → m ≤ room e := fun e he hg => by
        have := hmin (ask e) (List.mem_map.mpr ⟨e, he, rfl⟩)
        rw [hask e, if_pos hg] at this
        exact this
      have hR10 := s10 _ _ hR
      have hL10 := s10 _ _ hL
      have hr10 := s10 _ _ hr
      have hrs10 := rowsP_tk (Same.tk s10) hrs
      have hv10 := pairs_tk (Same.tk s10) hv
      have D10 := D9.same s10
      have K10 := K9.trans (Same.kp s10)
      have ha10 := s10 _ _ ha
      have hta10 := s10 _ _ hta
      have hpa10 := s10 _ _ hpa
      clear hZ s10 hR hL hr hrs hv D9 K9 ha hta hpa nZ hmin hm
      refine ⟨.int m, rfl, _, _, rfl, rfl, _, rfl, ?_⟩
      cases hm0 : decide (m > 0) with
      | false => exact ⟨_, _, _, _, room, rs, rx, rfl, hR10, hroom, hL10, hrs10, hrx, by omega, hr10, hv10, D10, K10⟩
      | true =>
      have m1 := of_decide_eq_true hm0
      refine ⟨.ref d, rfl, d, c, 4, rfl, D10, by decide, by decide, fun y H11 y0 y1 D11 K11 => ⟨_, _, rfl, rfl, _, rfl, ?_⟩⟩
      have hR11 := K11 _ _ Rd Rc hR10
      have hL11 := K11 _ _ Ld Lc hL10
      have hr11 := K11 _ _ rd rc hr10
      have tk11 := K11.tk D10
      have hrs11 := rowsP_tk tk11 hrs10
      have hv11 := pairs_tk tk11 hv10
      have K011 := K10.trans K11
      have ha11 := tk11 _ _ ha10
      have hta11 := tk11 _ _ hta10
      have hpa11 := tk11 _ _ hpa10
      clear hR10 hL10 hr10 tk11 hrs10 hv10 K10 K11 ha10 hta10 hpa10 D10
      refine ite2 (fun _ => ?_) (fun _ => ⟨_, _, _, _, room, rs, rx, rfl, hR11, hroom, hL11, hrs11, hrx, by omega, hr11, hv11, D11, K011⟩)
      refine ⟨.int m, rfl, .int m, rfl, _, _, rfl, rfl, _, _, rfl, rfl, ⟨by decide, by decide⟩, by show 3 ≤ sizeLine; decide, fun p np => ?_⟩
      have s12 := same_new (o := .lst [.int m, .int 1, .int ((m + 1) / 2)]) np
      have hp12 := upd_same (H := H11) (a := p) (o := .lst [.int m, .int 1, .int ((m + 1) / 2)])
      obtain ⟨pd, pc⟩ := D11.ned np
      have D12 := D11.same s12
      refine ⟨.ref d, rfl, d, c, 3, rfl, D12, by decide, by decide, fun z H13 z0 z1 D13 K13 => ?_⟩
      have hp13 := K13 _ _ pd pc hp12
      have hR13 := K13 _ _ Rd Rc (s12 _ _ hR11)
      have hL13 := K13 _ _ Ld Lc (s12 _ _ hL11)
      have hr13 := K13 _ _ rd rc (s12 _ _ hr11)
      have tk13 := (Same.tk s12).trans (K13.tk D12)
      have hrs13 := rowsP_tk tk13 hrs11
      have hv13 := pairs_tk tk13 hv11
      have K013 := (K011.trans (Same.kp s12)).trans K13
      have ha13 := tk13 _ _ ha11
      have hta13 := tk13 _ _ hta11
      have hpa13 := tk13 _ _ hpa11
      obtain ⟨t, et, t1, tm⟩ : ∃ t, atI [V.int m, V.int 1, V.int ((m + 1) / 2)] z = some (.int t) ∧ 1 ≤ t ∧ t ≤ m := by
        have : z = 0 ∨ z = 1 ∨ z = 2 := by omega
        rcases this with rfl | rfl | rfl
        · exact ⟨m, rfl, by omega, by omega⟩
        · exact ⟨1, rfl, by omega, by omega⟩
        · exact ⟨(m + 1) / 2, rfl, by omega, by omega⟩
      clear s12 hp12 D12 K13 tk13 hR11 hL11 hr11 hrs11 hv11 K011 ha11 hta11 hpa11 D11 np
      refine ⟨p, _, z, .int t, rfl, rfl, SqL.of hp13, et, ?_⟩
      refine ⟨.ref a, rfl, a, _, 1, .ref ta, rfl, rfl, SqT.of ha13, rfl, ta, rfl, ⟨_, SqT.of hta13⟩, ?_⟩
      refine for_tup (xs := x.2.map V.int) (fun i σ' H' => ∃ (y10 : Option V), σ' = [some (.ref d), some (.ref wa), some (.ref sb), some (.ref gb), some (.int most), some (.int n), some (.ref tb), some wt, some (.ref N), some (.ref R), y10, some (.ref L), some (.ref a), some (.int m), some (.int t)] ∧ H' R = some (.dK (kvI given fun e => room e - if e ∈ x.2.take i then t else 0)) ∧ ∀ b, b ≠ R → H' b = H13 b) ⟨_, rfl, by
        rw [hR13]
        congr 2
        unfold kvI
        exact List.map_congr_left fun e _ => by simp, fun _ _ => rfl⟩ (fun i σ' H' _ h => by
        obtain ⟨_, _, _, h⟩ := h
        exact SqT.of (by rw [h ta (ne_of hta13 hR13 (by intro z; cases z))]; exact hta13)) ?_ ?_
      · rintro i w σ' H14 ei ⟨y10, rfl, hR14, hb14⟩
        rw [List.getElem?_map] at ei
        obtain ⟨e, ee, rfl⟩ := Option.map_eq_some_iff.mp ei
        have il := (List.getElem?_eq_some_iff.mp ee).1
        have et' : x.2.take (i + 1) = x.2.take i ++ [e] := by rw [List.take_add_one, ee]; rfl
        have eni : e ∉ x.2.take i := fun z => by
          obtain ⟨i', hi'⟩ := List.getElem?_of_mem z
          have il' := (List.getElem?_eq_some_iff.mp hi').1
          rw [List.length_take] at il'
          rw [List.getElem?_take_of_lt (by omega)] at hi'
          have h1 := (List.getElem?_eq_some_iff.mp hi')
          have h2 := (List.getElem?_eq_some_iff.mp ee)
          exact List.pairwise_iff_getElem.mp xnd i' i h1.1 il (by omega) (h1.2.trans h2.2.symm)
        refine ⟨.int e, rfl, .ref R, rfl, R, _, rfl, DGet.k (k := Sum.inl e) hR14, _, rfl, ?_⟩
        rw [kvI_val]
        by_cases hg : e ∈ given
        · rw [if_pos hg]
          have g1 : DGet H14 R (.int e) (some (.int (room e - if e ∈ x.2.take i then t else 0))) := by
            have := DGet.k (k := Sum.inl e) hR14
            rw [kvI_val, if_pos hg] at this
            exact this
          refine ⟨.ref R, rfl, .int e, rfl, R, _, rfl, g1, .int t, rfl, _, _, rfl, rfl, .ref R, rfl, .int e, rfl, R, _, rfl, DPut.k (k := Sum.inl e) hR14 (by unfold kvI; rw [List.length_map]; exact small1000 (by omega)), ?_⟩
          refine ⟨_, rfl, ?_, fun b hb => by rw [upd_ne hb]; exact hb14 b hb⟩
          rw [upd_same]
          have ev : (room e - if e ∈ x.2.take i then t else 0) - t = room e - if e ∈ x.2.take (i + 1) then t else 0 := by
            rw [if_neg eni, et', if_pos (by simp)]
            omega
          show some (HO.dK (putK (kvI given fun e => room e - if e ∈ x.2.take i then t else 0) (Sum.inl e) (.int ((room e - if e ∈ x.2.take i then t else 0) - t)))) = _
          rw [ev, kvI_put (f := fun e => room e - if e ∈ x.2.take i then t else 0) (g := fun e => room e - if e ∈ x.2.take (i + 1) then t else 0) (fun k => by
            by_cases hk : k = e
            · rw [if_pos hk, hk]
            · rw [if_neg hk, et']
              simp [hk])]
          unfold addI
          rw [if_pos hg]
        · rw [if_neg hg]
          refine ⟨_, rfl, ?_, hb14⟩
          rw [hR14]
          congr 2
          unfold kvI
          refine List.map_congr_left fun k hk => ?_
          have : k ≠ e := fun z => hg (z ▸ hk)
          rw [et']
          simp [this]
      rintro σ' H14 ⟨y10', rfl, hR14, hb14⟩
      rw [List.length_map, List.take_length] at hR14
      obtain rfl := upd_fun hR14 hb14
      have tk14 : Tk H13 (upd H13 R (.dK (kvI given fun e => room e - if e ∈ x.2 then t else 0))) := tk_ot hR13 (by intro xs z; cases z)
      have D14 := D13.mut Rd Rc (o := .dK (kvI given fun e => room e - if e ∈ x.2 then t else 0))
      have K14 := K013.mut nR0 (o := .dK (kvI given fun e => room e - if e ∈ x.2 then t else 0))
      have hL14 := (upd_ne (H := H13) (o := .dK (kvI given fun e => room e - if e ∈ x.2 then t else 0)) RL.symm).trans hL13
      have hr14 := (upd_ne (H := H13) (o := .dK (kvI given fun e => room e - if e ∈ x.2 then t else 0)) rR).trans hr13
      have hrs14 := rowsP_tk tk14 hrs13
      have hv14 := pairs_tk tk14 hv13
      have px14 : PairT _ (.ref a) x := ⟨a, pa, ta, rfl, tk14 _ _ ha13, tk14 _ _ hpa13, tk14 _ _ hta13⟩
      clear hb14 tk14 hR13 hL13 hr13 hrs13 hv13 hp13 D13 K013 ha13 hta13 hpa13
      generalize upd H13 R (.dK (kvI given fun e => room e - if e ∈ x.2 then t else 0)) = H14 at hR14 D14 K14 hL14 hr14 hrs14 hv14 px14
      refine ⟨.ref L, rfl, .inl ⟨rfl, _, SqL.of hL14⟩, .ref d, rfl, .ref L, rfl, L, _, rfl, .inl (SqL.of hL14), _, _, rfl, rfl, d, c, _, rfl, D14, by omega, nb120 (by omega) (by omega), fun y2 H15 w0 w1 D15 K15 => ?_⟩
      obtain ⟨k, rfl⟩ : ∃ k : Nat, y2 = (k : Int) := ⟨y2.toNat, by omega⟩
      refine ⟨.ref a, rfl, .int t, rfl, by show 2 ≤ sizeLine; decide, fun b nb => ?_⟩
      have s16 := same_new (o := .tup [.ref a, .int t]) nb
      have hb16 := upd_same (H := H15) (a := b) (o := .tup [.ref a, .int t])
      have hL16 := s16 _ _ (K15 _ _ Ld Lc hL14)
      have hR16 := s16 _ _ (K15 _ _ Rd Rc hR14)
      have hr16 := s16 _ _ (K15 _ _ rd rc hr14)
      have tk16 := (K15.tk D14).trans (Same.tk s16)
      have hrs16 := rowsP_tk tk16 hrs14
      have hv16 := pairs_tk tk16 hv14
      have px16 := px14.tk tk16
      have D16 := D15.same s16
      have K16 := (K14.trans K15).trans (Same.kp s16)
      generalize upd H15 b (.tup [.ref a, .int t]) = H16 at hb16 hL16 hR16 hr16 hrs16 hv16 px16 D16 K16
      clear s16 tk16 hrs14 hv14 px14 hL14 hR14 hr14 K15 K14 D14 D15 nb
      refine ⟨L, rs, (k : Int), .ref b, rfl, rfl, hL16, small1000 (by omega), by omega, by omega, ?_⟩
      rw [Int.toNat_natCast]
      have tkL := tk_lst (ys := rs.take k ++ [.ref b] ++ rs.drop k) hL16
      refine ⟨_, _, _, _, fun e => room e - if e ∈ x.2 then t else 0, rs.take k ++ [.ref b] ++ rs.drop k, rx.take k ++ [(x, t)] ++ rx.drop k, rfl, by rw [upd_ne RL]; exact hR16, fun e he => ?_, upd_same, ?_, fun y hy => ?_, by simp only [List.length_append, List.length_take, List.length_drop, List.length_singleton]; omega, by rw [upd_ne rL]; exact hr16, pairs_tk tkL hv16, D16.mut Ld Lc, K16.mut nL0⟩
      · have r0 := hroom e he
        have pm : (rx.take k ++ [(x, t)] ++ rx.drop k).Perm ((x, t) :: rx) := by
          have pm := List.perm_middle (a := (x, t)) (l₁ := rx.take k) (l₂ := rx.drop k)
          rw [List.take_append_drop] at pm
          rw [List.append_assoc]
          exact pm
        rw [loadD_perm pm, loadD_cons]
        show 0 ≤ (room e - if e ∈ x.2 then t else 0) ∧ (room e - if e ∈ x.2 then t else 0) = 2 * g e - ((if e ∈ x.2 then t else 0) + loadD rx e)
        by_cases hex : e ∈ x.2
        · have := mle e hex he
          rw [if_pos hex]
          omega
        · rw [if_neg hex]
          omega
      · exact rowsP_tk tkL (Paired.app2F (Paired.app2F (Paired.takeF k hrs16) (.cons ⟨b, a, rfl, hb16, px16⟩ .nil)) (Paired.dropF k hrs16))
      · rcases List.mem_append.mp hy with hy | hy
        · rcases List.mem_append.mp hy with hy | hy
          · exact hrx y (List.mem_of_mem_take hy)
          · rw [List.mem_singleton.mp hy]
            exact ⟨hRx, t1⟩
        · exact hrx y (List.mem_of_mem_drop hy)
    · rintro σ' H9 ⟨y10, y12, y13, y14, room, rs, rx, rfl, hR, hroom, hL, hrs, hrx, lrs, hr, hv, D9, K9⟩
      refine ⟨.ref L, rfl, L, _, rfl, .inl ⟨SqL.of hL, fun e ne => ?_⟩⟩
      have se := same_new (o := .tup rs) ne
      exact q e rs rx _ upd_same (rowsP_tk (Same.tk se) hrs) ⟨hrx, fun e he => by have := hroom e he; omega⟩ (by omega) (D9.same se) (K9.trans (Same.kp se))
end
/-! ### papers: a ring that was drawn holds -/
def RingL (ts : List Tie) (ps es : List Int) : Prop := es.length = ps.length ∧ ∀ i, i < ps.length → joinB (tieAt ts (es.getD i 0)) (ps.getD i 0) (ps.getD ((i + 1) % ps.length) 0) = true
theorem joinB_comm (t : Tie) (a b : Int) : joinB t a b = joinB t b a := by
  unfold joinB
  rw [Bool.or_comm]
theorem rotI_getD (xs : List Int) {k i : Nat} (hk : k < xs.length) (hi : i < xs.length) : (rotI xs k).getD i 0 = xs.getD ((i + k) % xs.length) 0 := by
  unfold rotI
  rw [List.getD_eq_getElem?_getD, List.getD_eq_getElem?_getD]
  by_cases h : i < xs.length - k
  · rw [List.getElem?_append_left (by rw [List.length_drop]; exact h), List.getElem?_drop, Nat.mod_eq_of_lt (by omega), Nat.add_comm]
  · rw [List.getElem?_append_right (by rw [List.length_drop]; omega), List.length_drop, List.getElem?_take_of_lt (by omega)]
    have e : (i + k) % xs.length = i - (xs.length - k) := by
      rw [Nat.mod_eq_sub_mod (by omega), Nat.mod_eq_of_lt (by omega)]
      omega
    rw [e]
theorem RingL.rot {ts : List Tie} {ps es : List Int} (h : RingL ts ps es) {k : Nat} (hk : k < ps.length) : RingL ts (rotI ps k) (rotI es k) := by
  have le := h.1
  refine ⟨by rw [rotI_len, rotI_len, le], fun i hi => ?_⟩
  rw [rotI_len] at hi ⊢
  have ml : (i + 1) % ps.length < ps.length := Nat.mod_lt _ (by omega)
  rw [rotI_getD ps hk hi, rotI_getD ps hk ml, rotI_getD es (by omega) (by omega), le]
  have e : ((i + 1) % ps.length + k) % ps.length = ((i + k) % ps.length + 1) % ps.length := by
    rw [Nat.mod_add_mod, Nat.mod_add_mod]
    congr 1
    omega
  rw [e]
  exact h.2 _ (Nat.mod_lt _ (by omega))
theorem revI_getD (xs : List Int) {i : Nat} (hi : i < xs.length) : xs.reverse.getD i 0 = xs.getD (xs.length - 1 - i) 0 := by
  rw [List.getD_eq_getElem?_getD, List.getD_eq_getElem?_getD, List.getElem?_reverse hi]
theorem RingL.rev {ts : List Tie} {ps es : List Int} (h : RingL ts ps es) (l : 1 ≤ ps.length) : RingL ts ps.reverse ((es.take (ps.length - 1)).reverse ++ es.drop (ps.length - 1)) := by
  have le := h.1
  have lt : (es.take (ps.length - 1)).length = ps.length - 1 := by rw [List.length_take]; omega
  refine ⟨by rw [List.length_append, List.length_reverse, List.length_reverse, List.length_drop, lt]; omega, fun i hi => ?_⟩
  rw [List.length_reverse] at hi ⊢
  have ml : (i + 1) % ps.length < ps.length := Nat.mod_lt _ (by omega)
  rw [revI_getD ps hi, revI_getD ps ml]
  by_cases hl : i < ps.length - 1
  · have e1 : ((es.take (ps.length - 1)).reverse ++ es.drop (ps.length - 1)).getD i 0 = es.getD (ps.length - 2 - i) 0 := by
      rw [List.getD_eq_getElem?_getD, List.getD_eq_getElem?_getD, List.getElem?_append_left (by rw [List.length_reverse, lt]; exact hl), List.getElem?_reverse (by rw [lt]; exact hl), lt, List.getElem?_take_of_lt (by omega)]
      congr 2
    have := h.2 (ps.length - 2 - i) (by omega)
    rw [Nat.mod_eq_of_lt (show ps.length - 2 - i + 1 < ps.length by omega)] at this
    rw [e1, Nat.mod_eq_of_lt (show i + 1 < ps.length by omega), joinB_comm, show ps.length - 1 - (i + 1) = ps.length - 2 - i by omega, show ps.length - 1 - i = ps.length - 2 - i + 1 by omega]
    exact this
  · have ei : i = ps.length - 1 := by omega
    have e1 : ((es.take (ps.length - 1)).reverse ++ es.drop (ps.length - 1)).getD i 0 = es.getD (ps.length - 1) 0 := by
      rw [List.getD_eq_getElem?_getD, List.getD_eq_getElem?_getD, List.getElem?_append_right (by rw [List.length_reverse, lt]; omega), List.length_reverse, lt, List.getElem?_drop]
      congr 2
      omega
    have := h.2 (ps.length - 1) (by omega)
    have m0 : (ps.length - 1 + 1) % ps.length = 0 := by rw [show ps.length - 1 + 1 = ps.length by omega, Nat.mod_self]
    rw [m0] at this
    rw [e1, ei, m0, joinB_comm, show ps.length - 1 - 0 = ps.length - 1 by omega, show ps.length - 1 - (ps.length - 1) = 0 by omega]
    exact this
theorem WayR.ring {ts : List Tie} {nums : List Int} {n tie : Int} {ps es : List Int} (W : WayR ts nums n (tieAt ts tie).one (tieAt ts tie).other ps es) : RingL ts ps (es ++ [tie]) := by
  have len := W.len
  refine ⟨by rw [List.length_append, List.length_singleton, len], fun i hi => ?_⟩
  by_cases hl : i < es.length
  · rw [Nat.mod_eq_of_lt (show i + 1 < ps.length by omega)]
    have := (W.st i es[i] ps[i] ps[i + 1] (List.getElem?_eq_getElem hl) (List.getElem?_eq_getElem hi) (List.getElem?_eq_getElem (by omega))).2
    rw [List.getD_eq_getElem?_getD, List.getD_eq_getElem?_getD, List.getD_eq_getElem?_getD, List.getElem?_append_left hl, List.getElem?_eq_getElem hl, List.getElem?_eq_getElem hi, List.getElem?_eq_getElem (show i + 1 < ps.length by omega)]
    exact this
  · have ei : i = es.length := by omega
    subst ei
    rw [show es.length + 1 = ps.length by omega, Nat.mod_self, List.getD_eq_getElem?_getD, List.getD_eq_getElem?_getD, List.getD_eq_getElem?_getD, W.last, W.hd, List.getElem?_append_right (Nat.le_refl _), Nat.sub_self]
    show joinB (tieAt ts tie) (tieAt ts tie).other (tieAt ts tie).one = true
    unfold joinB
    simp
theorem RingD.ringL {x : List Int × List Int} {ts : List Tie} {nums : List Int} {n w : Int} (h : RingD ts nums n w x) : RingL ts x.1 x.2 := by
  obtain ⟨ps, es, tie, k, rev, others, W, ho, ht, kl, rfl, _⟩ := h
  have R := W.ring.rot kl
  show RingL ts (turnP ps k rev) (turnE (es ++ [tie]) k rev)
  unfold turnP turnE
  cases rev with
  | false => exact R
  | true =>
    have := R.rev (by rw [rotI_len]; omega)
    rw [rotI_len] at this
    have e : (es ++ [tie]).length = ps.length := W.ring.1
    show RingL ts (rotI ps k).reverse (((rotI (es ++ [tie]) k).take ((es ++ [tie]).length - 1)).reverse ++ (rotI (es ++ [tie]) k).drop ((es ++ [tie]).length - 1))
    rw [e]
    exact this
theorem RingD.places {x : List Int × List Int} {ts : List Tie} {nums : List Int} {n w : Int} (h : RingD ts nums n w x) : x.1.Nodup ∧ (∀ p ∈ x.1, 0 ≤ p ∧ p < n) := by
  obtain ⟨ps, es, tie, k, rev, others, W, _, _, _, rfl, _⟩ := h
  have pm := turnP_perm ps k rev
  exact ⟨pm.nodup_iff.mpr W.nd, fun p hp => W.rng p (pm.mem_iff.mp hp)⟩
theorem foesI_perm (ts : List Tie) {xs ys : List Int} (h : xs.Perm ys) : foesI ts xs = foesI ts ys := by
  unfold foesI
  exact (h.filter _).length_eq
theorem RingD.foes {x : List Int × List Int} {ts : List Tie} {nums : List Int} {n w : Int} (h : RingD ts nums n w x) : (foesI ts x.2 : Int) % 2 = w := by
  obtain ⟨ps, es, tie, k, rev, others, W, _, _, _, rfl, hw⟩ := h
  show (foesI ts (turnE (es ++ [tie]) k rev) : Int) % 2 = w
  rw [foesI_perm ts (turnE_perm (es ++ [tie]) k rev)]
  exact hw
theorem RingD.two {x : List Int × List Int} {ts : List Tie} {nums : List Int} {n w m : Int} (h : RingD ts nums n w x) (ok : ∀ t ∈ ts, TieOk m t) (hn : ∀ e ∈ nums, 0 ≤ e ∧ e < (ts.length : Int)) : 2 ≤ x.1.length := by
  obtain ⟨ps, es, tie, k, rev, others, W, _, ht, _, rfl, _⟩ := h
  show 2 ≤ (turnP ps k rev).length
  rw [(turnP_perm ps k rev).length_eq]
  have tr := hn tie ht
  have ne := (ok _ (List.mem_of_getElem? (tieAt_get tr.1 tr.2))).2.2.2.2
  refine Classical.byContradiction fun z => ?_
  have len := W.len
  have e0 : es.length = 0 := by omega
  have h1 := W.hd
  have h2 := W.last
  rw [e0] at h2
  rw [h1] at h2
  exact ne (Option.some.inj h2)
/-! ### papers: rows of rings that were drawn show -/
theorem unl_of {lim : Int} {xs : List Int} (nd : xs.Nodup) (r : ∀ x ∈ xs, 0 ≤ x ∧ x < lim) : unl lim (some (xs.map V.int)) = true := by
  have h1 : (xs.map V.int).all (wbelow lim) = true := by
    rw [List.all_eq_true]
    intro v hv
    obtain ⟨x, hx, rfl⟩ := List.mem_map.mp hv
    have := r x hx
    show (decide (0 ≤ x) && decide (x < lim)) = true
    rw [decide_eq_true this.1, decide_eq_true this.2]
    rfl
  have h2 : (xs.map V.int).Nodup := by
    refine List.pairwise_map.mpr (nd.imp fun {a b} h z => h (V.int.inj z))
  show ((xs.map V.int).all (wbelow lim) && decide (xs.map V.int).Nodup) = true
  rw [h1, decide_eq_true h2]
  rfl
theorem RowP.rowR {H : Hp} {v : V} {x : RwD} {n : Int} {ts : List Tie} {nums : List Int} (h : RowP H v x) (r : RingD ts nums n 1 x.1) (t1 : 1 ≤ x.2) (ok : ∀ t ∈ ts, TieOk n t) (hn : ∀ e ∈ nums, 0 ≤ e ∧ e < (ts.length : Int)) : rowR H n ts v = some (x.1.2, x.2) := by
  obtain ⟨a, ra, rfl, ha, b, pa, ta, eb, hb, hpa, hta⟩ := h
  cases eb
  obtain ⟨end_, ein, epos, e41⟩ := r.nd
  obtain ⟨pnd, prg⟩ := r.places
  have rl := r.ringL
  have two := r.two ok hn
  have fo := r.foes
  have e1 : tiesOf H (.ref ra) = x.1.2 := by
    unfold tiesOf
    rw [parts_of' hb]
    show ((parts H (.ref ta)).getD []).map toI = _
    rw [parts_of' hta]
    exact toI_map _
  have e2 : oddB H n ts (.ref ra) = true := by
    unfold oddB ringB
    rw [parts_of' hb]
    show (ringP n ts (parts H (.ref pa)) (parts H (.ref ta)) && (match parts H (.ref ta) with | some es => decide (foesI ts (es.map toI) % 2 = 1) | none => false)) = true
    rw [parts_of' hpa, parts_of' hta]
    show (ringP n ts (some (x.1.1.map V.int)) (some (x.1.2.map V.int)) && decide (foesI ts ((x.1.2.map V.int).map toI) % 2 = 1)) = true
    rw [toI_map, Bool.and_eq_true, decide_eq_true_iff]
    refine ⟨?_, by omega⟩
    show (unl n (some (x.1.1.map V.int)) && (unl ts.length (some (x.1.2.map V.int)) && (decide (2 ≤ (x.1.1.map V.int).length) && (decide ((x.1.1.map V.int).length = (x.1.2.map V.int).length) && ringI ts ((x.1.1.map V.int).map toI) ((x.1.2.map V.int).map toI))))) = true
    rw [toI_map, toI_map, List.length_map, List.length_map, Bool.and_eq_true, Bool.and_eq_true, Bool.and_eq_true, Bool.and_eq_true, decide_eq_true_iff, decide_eq_true_iff]
    refine ⟨?u1, ?u2, two, rl.1.symm, ?_⟩
    case u1 => exact unl_of pnd prg
    case u2 => exact unl_of end_ fun e he => hn e (ein e he)
    unfold ringI
    rw [List.all_eq_true]
    intro i hi
    have := List.mem_range.mp hi
    rw [rl.1] at this
    exact rl.2 i this
  unfold FF.rowR
  rw [parts_of' ha]
  show (if decide (1 ≤ x.2) && oddB H n ts (.ref ra) then some (tiesOf H (.ref ra), x.2) else none) = _
  rw [e2, e1, decide_eq_true t1]
  rfl
theorem rows_fold {H : Hp} {n : Int} {ts : List Tie} {nums : List Int} (ok : ∀ t ∈ ts, TieOk n t) (hn : ∀ e ∈ nums, 0 ≤ e ∧ e < (ts.length : Int)) : ∀ {vs : List V} {xs : List RwD} (acc : List (List Int × Int)), Paired (RowP H) vs xs → (∀ x ∈ xs, RingD ts nums n 1 x.1 ∧ 1 ≤ x.2) → vs.foldl (stepR H n ts) (some acc) = some (acc ++ xs.map fun x => (x.1.2, x.2))
  | _, _, acc, .nil, _ => by simp
  | v :: vs, x :: xs, acc, .cons a t, h => by
    have hx := h x List.mem_cons_self
    have e := a.rowR hx.1 hx.2 ok hn
    show vs.foldl (stepR H n ts) (stepR H n ts (some acc) v) = _
    have e3 : stepR H n ts (some acc) v = some (acc ++ [(x.1.2, x.2)]) := by
      show (match FF.rowR H n ts v with | none => none | some x => some (acc ++ [x])) = _
      rw [e]
    rw [e3, rows_fold ok hn _ t fun y hy => h y (List.mem_cons_of_mem _ hy)]
    simp
theorem RowsD.show {H : Hp} {n : Int} {ts su : List Tie} {given : List Int} {g : Int → Int} {vs : List V} {xs : List RwD} (h : RowsD ts su n given g xs) (hp : Paired (RowP H) vs xs) (ok : WebOk n (ts ++ su)) (gin : ∀ e ∈ given, 0 ≤ e ∧ e < (ts.length : Int)) : ringsS H n (ts ++ su) (limW g ts.length) given vs = some ((totR (xs.map fun x => (x.1.2, x.2)) + 1) / 2) := by
  have hn : ∀ e ∈ given ++ sureN ts.length su.length, 0 ≤ e ∧ e < ((ts ++ su).length : Int) := fun e he => by
    rw [List.length_append]
    rcases List.mem_append.mp he with z | z
    · have := gin e z
      omega
    · have := sureN_mem.mp z
      omega
  unfold ringsS
  rw [rows_fold ok.ok hn [] hp h.ring, List.nil_append]
  have ll : (limW g ts.length).length = ts.length := by
    unfold limW
    rw [List.length_map, rng_length]
  have e1 : givR (limW g ts.length).length given (xs.map fun x => (x.1.2, x.2)) = true := by
    unfold givR
    rw [List.all_eq_true]
    intro y hy
    obtain ⟨x, hx, rfl⟩ := List.mem_map.mp hy
    rw [List.all_eq_true]
    intro e he
    rcases List.mem_append.mp ((h.ring x hx).1.nd.2.1 e he) with z | z
    · rw [decide_eq_true z]
      rfl
    · rw [ll, decide_eq_true (sureN_mem.mp z).1, Bool.or_true]
  have e2 : fitR (limW g ts.length) (xs.map fun x => (x.1.2, x.2)) = true := by
    unfold fitR
    rw [List.all_eq_true]
    intro y hy
    obtain ⟨x, hx, rfl⟩ := List.mem_map.mp hy
    rw [List.all_eq_true]
    intro e he
    rcases List.mem_append.mp ((h.ring x hx).1.nd.2.1 e he) with z | z
    · have gr := gin e z
      rw [limW_at gr.1 gr.2]
      have := h.load e z
      unfold loadD at this
      rw [decide_eq_true this, Bool.or_true]
    · rw [ll, decide_eq_true (sureN_mem.mp z).1]
      rfl
  show (if (givR (limW g ts.length).length given (xs.map fun x => (x.1.2, x.2)) && fitR (limW g ts.length) (xs.map fun x => (x.1.2, x.2))) = true then some ((totR (xs.map fun x => (x.1.2, x.2)) + 1) / 2) else none) = _
  rw [e1, e2]
  rfl
/-! ### papers: what was drawn shows -/
theorem StayP.kp {d c : Addr} {H H' : Hp} (D : Deck H d c) (D' : Deck H' d c) (k : Kp d c H H') : StayP H H' := fun u hu => by
  cases u with
  | ref a =>
    by_cases ad : a = d
    · subst ad
      obtain ⟨cells, st, n, h1, _⟩ := D
      obtain ⟨cells', st', n', h1', _⟩ := D'
      refine ⟨.inr (.inr ⟨_, h1'⟩), ?_⟩
      unfold parts
      simp only [h1, h1']
    · by_cases ac : a = c
      · subst ac
        obtain ⟨cells, st, n, _, h1, _⟩ := D
        obtain ⟨cells', st', n', _, h1', _⟩ := D'
        refine ⟨.inl ⟨_, h1'⟩, ?_⟩
        unfold parts
        simp only [h1, h1']
      · unfold parts
        rcases hu with ⟨xs, h⟩ | ⟨xs, h⟩ | ⟨xs, h⟩
        · exact ⟨.inl ⟨xs, k _ _ ad ac h⟩, by simp only [h, k _ _ ad ac h]⟩
        · exact ⟨.inr (.inl ⟨xs, k _ _ ad ac h⟩), by simp only [h, k _ _ ad ac h]⟩
        · exact ⟨.inr (.inr ⟨xs, k _ _ ad ac h⟩), by simp only [h, k _ _ ad ac h]⟩
  | _ => exact ⟨hu, rfl⟩
theorem StayP.lst {l : Addr} {H : Hp} {xs ys : List V} (h : H l = some (.lst xs)) : StayP H (upd H l (.lst ys)) := fun u hu => by
  cases u with
  | ref a =>
    by_cases al : a = l
    · subst al
      refine ⟨.inl ⟨_, upd_same⟩, ?_⟩
      unfold parts
      simp only [h, upd_same]
    · refine ⟨?_, by unfold parts; simp only [upd_ne al]⟩
      rcases hu with ⟨zs, h⟩ | ⟨zs, h⟩ | ⟨zs, h⟩
      · exact .inl ⟨zs, (upd_ne al).trans h⟩
      · exact .inr (.inl ⟨zs, (upd_ne al).trans h⟩)
      · exact .inr (.inr ⟨zs, (upd_ne al).trans h⟩)
  | _ => exact ⟨hu, rfl⟩
/-- it shows z, looked at to any depth above k -/
def ShowZ (k : Nat) (H : Hp) (n : Int) (ts : List Tie) (lim given : List Int) (v : V) (z : Int) : Prop := ∀ D, k < D → shownS D H n ts lim given v = some z
theorem ShowZ.stay {e k : Nat} {H H' : Hp} {n : Int} {ts : List Tie} {lim given : List Int} {v : V} {z : Int} (h : ShowZ k H n ts lim given v z) (hv : PapV e H v) (s : StayP H H') : ShowZ k H' n ts lim given v z := fun D hD => by
  rw [shown_stay hv s]
  exact h D hD
theorem ShowZ.mono {k l : Nat} (kl : k ≤ l) {H : Hp} {n : Int} {ts : List Tie} {lim given : List Int} {v : V} {z : Int} (h : ShowZ k H n ts lim given v z) : ShowZ l H n ts lim given v z := fun D hD => h D (by omega)
theorem shown_rings {d : Nat} {H : Hp} {n : Int} {ts : List Tie} {lim given : List Int} {t r : Addr} {vs : List V} (ht : H t = some (.tup [.str "rings", .ref r])) (hr : H r = some (.tup vs)) : shownS (d + 1) H n ts lim given (.ref t) = ringsS H n ts lim given vs := by
  rw [shown_two (parts_of' ht), parts_of' hr]
  rfl
theorem shown_split {d : Nat} {H : Hp} {n : Int} {ts : List Tie} {lim given : List Int} {t r : Addr} {vs : List V} (ht : H t = some (.tup [.str "split", .ref r])) (hr : H r = some (.tup vs)) : shownS (d + 1) H n ts lim given (.ref t) = splitS H lim.length given (fun es p => shownS d H n ts lim es p) vs := by
  rw [shown_two (parts_of' ht), parts_of' hr]
  rfl
theorem ShowZ.rings {H : Hp} {n : Int} {ts : List Tie} {lim given : List Int} {t r : Addr} {vs : List V} {z : Int} (ht : H t = some (.tup [.str "rings", .ref r])) (hr : H r = some (.tup vs)) (h : ringsS H n ts lim given vs = some z) : ShowZ 0 H n ts lim given (.ref t) z := fun D hD => by
  obtain ⟨d, rfl⟩ : ∃ d, D = d + 1 := ⟨D - 1, by omega⟩
  rw [shown_rings ht hr, h]
/-- a row of a split as it is drawn -/
def SplP (e k : Nat) (H : Hp) (n : Int) (ts : List Tie) (lim : List Int) (v : V) (x : List Int × Int) : Prop := ∃ (a ta : Addr) (u : V), v = .ref a ∧ H a = some (.tup [.ref ta, u]) ∧ H ta = some (.tup (x.1.map V.int)) ∧ PapV e H u ∧ ShowZ k H n ts lim x.1 u x.2
theorem SplP.stay {e k : Nat} {H H' : Hp} {n : Int} {ts : List Tie} {lim : List Int} {v : V} {x : List Int × Int} (t : Tk H H') (s : StayP H H') (h : SplP e k H n ts lim v x) : SplP e k H' n ts lim v x := by
  obtain ⟨a, ta, u, rfl, h1, h2, h3, h4⟩ := h
  exact ⟨a, ta, u, rfl, t _ _ h1, t _ _ h2, h3.stay s, h4.stay h3 s⟩
theorem splP_stay {e k : Nat} {H H' : Hp} {n : Int} {ts : List Tie} {lim : List Int} {vs : List V} {xs : List (List Int × Int)} (t : Tk H H') (s : StayP H H') (h : Paired (SplP e k H n ts lim) vs xs) : Paired (SplP e k H' n ts lim) vs xs := Paired.mono (fun _ _ x => x.stay t s) h
theorem rowT_on {H : Hp} {m : Nat} {a ta : Addr} {u : V} {es : List Int} (ha : H a = some (.tup [.ref ta, u])) (ht : H ta = some (.tup (es.map V.int))) (b : ∀ e ∈ es, 0 ≤ e ∧ e < (m : Int)) (pw : es.Pairwise (· < ·)) : rowT H m (.ref a) = some (es, u) := by
  rw [rowT_two (parts_of' ha), if_pos (rise_of ht b pw), parts_of' ht]
  show some ((es.map V.int).map toI, u) = _
  rw [toI_map]
theorem split_fold {e k d : Nat} (kd : k < d) {H : Hp} {n : Int} {ts : List Tie} {lim given : List Int} : ∀ {vs : List V} {xs : List (List Int × Int)} (tk : List Int) (tot : Int), Paired (SplP e k H n ts lim) vs xs → (∀ x ∈ xs, x.1.Pairwise (· < ·) ∧ ∀ e ∈ x.1, (0 ≤ e ∧ e < (lim.length : Int)) ∧ e ∈ given ∧ e ∉ tk) → xs.Pairwise (fun x y => ∀ e ∈ y.1, e ∉ x.1) → vs.foldl (stepT H lim.length given (fun es p => shownS d H n ts lim es p)) (some (tk, tot)) = some (tk ++ xs.flatMap (·.1), tot + (xs.map (·.2)).sum)
  | _, _, tk, tot, .nil, _, _ => by simp
  | v :: vs, x :: xs, tk, tot, .cons r t, hx, pw => by
    obtain ⟨a, ta, u, rfl, h1, h2, h3, h4⟩ := r
    have h0 := hx x List.mem_cons_self
    have pw := List.pairwise_cons.mp pw
    have e1 : stepT H lim.length given (fun es p => shownS d H n ts lim es p) (some (tk, tot)) (.ref a) = some (tk ++ x.1, tot + x.2) := by
      rw [stepT_some, rowT_on h1 h2 (fun e he => (h0.2 e he).1) h0.1]
      show (if x.1.all (fun e => decide (e ∈ given) && !decide (e ∈ tk)) then (match shownS d H n ts lim x.1 u with | none => none | some k => some (tk ++ x.1, tot + k)) else none) = _
      rw [if_pos, h4 d kd]
      rw [List.all_eq_true]
      intro e he
      have := (h0.2 e he).2
      rw [decide_eq_true this.1, decide_eq_false this.2]
      rfl
    rw [List.foldl_cons, e1, split_fold kd _ _ t (fun y hy => ⟨(hx y (List.mem_cons_of_mem _ hy)).1, fun e he => ⟨((hx y (List.mem_cons_of_mem _ hy)).2 e he).1, ((hx y (List.mem_cons_of_mem _ hy)).2 e he).2.1, fun z => (List.mem_append.mp z).elim ((hx y (List.mem_cons_of_mem _ hy)).2 e he).2.2 (pw.1 y hy e he)⟩⟩) pw.2]
    simp only [List.flatMap_cons, List.map_cons, List.sum_cons, List.append_assoc, Int.add_assoc]
structure SplD (m : Nat) (given : List Int) (xs : List (List Int × Int)) : Prop where
  pw : ∀ x ∈ xs, x.1.Pairwise (· < ·)
  mem : ∀ x ∈ xs, ∀ e ∈ x.1, (0 ≤ e ∧ e < (m : Int)) ∧ e ∈ given
  dis : xs.Pairwise (fun x y => ∀ e ∈ y.1, e ∉ x.1)
theorem splitS_on {e k d : Nat} (kd : k < d) {H : Hp} {n : Int} {ts : List Tie} {lim given : List Int} {vs : List V} {xs : List (List Int × Int)} (hp : Paired (SplP e k H n ts lim) vs xs) (hd : SplD lim.length given xs) : splitS H lim.length given (fun es p => shownS d H n ts lim es p) vs = some (xs.map (·.2)).sum := by
  unfold splitS
  rw [split_fold kd [] 0 hp (fun x hx => ⟨hd.pw x hx, fun e he => ⟨(hd.mem x hx e he).1, (hd.mem x hx e he).2, fun z => by cases z⟩⟩) hd.dis]
  show some (0 + (xs.map (·.2)).sum) = _
  rw [Int.zero_add]
theorem ShowZ.split {e k : Nat} {H : Hp} {n : Int} {ts : List Tie} {lim given : List Int} {t r : Addr} {vs : List V} {xs : List (List Int × Int)} (ht : H t = some (.tup [.str "split", .ref r])) (hr : H r = some (.tup vs)) (hp : Paired (SplP e k H n ts lim) vs xs) (hd : SplD lim.length given xs) : ShowZ (k + 1) H n ts lim given (.ref t) (xs.map (·.2)).sum := fun D hD => by
  obtain ⟨d, rfl⟩ : ∃ d, D = d + 1 := ⟨D - 1, by omega⟩
  rw [shown_split ht hr, splitS_on (by omega) hp hd]
theorem ShowZ.case {k : Nat} {H : Hp} {n : Int} {ts : List Tie} {lim given : List Int} {t : Addr} {x y : Int} {a b : V} {z1 z2 : Int} (ht : H t = some (.tup [.str "case", .int x, .int y, a, b])) (hx : 0 ≤ x ∧ x < n) (hy : 0 ≤ y ∧ y < n) (xy : x ≠ y) (h1 : ShowZ k H n (ts ++ [⟨x, y, false⟩]) lim given a z1) (h2 : ShowZ k H n (ts ++ [⟨x, y, true⟩]) lim given b z2) : ShowZ (k + 1) H n ts lim given (.ref t) (min z1 z2) := fun D hD => by
  obtain ⟨d, rfl⟩ : ∃ d, D = d + 1 := ⟨D - 1, by omega⟩
  rw [shown_five (parts_of' ht), if_pos rfl, caseS_on]
  · show minO (shownS d H n (ts ++ [⟨x, y, false⟩]) lim given a) (shownS d H n (ts ++ [⟨x, y, true⟩]) lim given b) = _
    rw [h1 d (by omega), h2 d (by omega)]
    rfl
  · unfold unlB
    show ((decide (0 ≤ x) && decide (x < n)) && ((decide (0 ≤ y) && decide (y < n)) && !decide (V.int x = V.int y))) = true
    rw [decV, decide_eq_true hx.1, decide_eq_true hx.2, decide_eq_true hy.1, decide_eq_true hy.2, decide_eq_false xy]
    rfl
theorem WebOk.snoc {n : Int} {ts su : List Tie} {x y : Int} {kd : Bool} (h : WebOk n (ts ++ su)) (l : (ts ++ su).length < 120) (hx : 0 ≤ x ∧ x < n) (hy : 0 ≤ y ∧ y < n) (xy : x ≠ y) : WebOk n (ts ++ (su ++ [⟨x, y, kd⟩])) := by
  rw [← List.append_assoc]
  refine ⟨h.lo, h.hi, by rw [List.length_append, List.length_singleton]; omega, fun t ht => ?_⟩
  rcases List.mem_append.mp ht with z | z
  · exact h.ok t z
  · rw [List.mem_singleton.mp z]
    exact ⟨hx.1, hx.2, hy.1, hy.2, xy⟩
/-! ### papers: things with their sizes; papers drawn -/
def LfV (W : Nat) (v : V) : Prop := (∃ i, v = .int i) ∨ ∃ s : Str, v = .str s ∧ s.length ≤ W
theorem LfV.fl {W : Nat} {v : V} (h : LfV W v) : FlV v := by
  rcases h with ⟨i, rfl⟩ | ⟨s, rfl, _⟩ <;> exact trivial
/-- tuples, ints and texts alone: width W, depth d, so many parts in all -/
def TuN (W : Nat) : Nat → Hp → V → Nat → Prop
  | 0, _, v, s => LfV W v ∧ 1 ≤ s
  | d + 1, H, v, s => (LfV W v ∧ 1 ≤ s) ∨ ∃ (a : Addr) (xs : List V) (ss : List Nat), v = .ref a ∧ H a = some (.tup xs) ∧ xs.length ≤ W ∧ Paired (fun x t => TuN W d H x t) xs ss ∧ 1 + ss.sum ≤ s
theorem TuN.pos {W : Nat} : ∀ {d : Nat} {H : Hp} {v : V} {s : Nat}, TuN W d H v s → 1 ≤ s
  | 0, _, _, _, h => h.2
  | d + 1, _, _, _, h => by
    rcases h with h | ⟨_, _, _, _, _, _, _, h⟩
    · exact h.2
    · omega
theorem TuN.tk {W : Nat} : ∀ {d : Nat} {H H' : Hp} {v : V} {s : Nat}, Tk H H' → TuN W d H v s → TuN W d H' v s
  | 0, _, _, _, _, _, h => h
  | d + 1, H, H', v, s, k, h => by
    rcases h with h | ⟨a, xs, ss, e, h1, l, h2, h3⟩
    · exact .inl h
    · exact .inr ⟨a, xs, ss, e, k _ _ h1, l, Paired.mono (fun _ _ z => TuN.tk k z) h2, h3⟩
theorem TuN.leaf {W d : Nat} {H : Hp} {v : V} {s : Nat} (h : LfV W v) (l : 1 ≤ s) : TuN W d H v s := by
  cases d with
  | zero => exact ⟨h, l⟩
  | succ d => exact .inl ⟨h, l⟩
theorem TuN.up {W : Nat} : ∀ {d : Nat} {H : Hp} {v : V} {s : Nat}, TuN W d H v s → TuN W (d + 1) H v s
  | 0, _, _, _, h => .inl h
  | d + 1, H, v, s, h => by
    rcases h with h | ⟨a, xs, ss, e, h1, l, h2, h3⟩
    · exact .inl h
    · exact .inr ⟨a, xs, ss, e, h1, l, Paired.mono (fun _ _ z => TuN.up z) h2, h3⟩
theorem TuN.mono {W d e : Nat} (l : d ≤ e) {H : Hp} {v : V} {s : Nat} (h : TuN W d H v s) : TuN W e H v s := by
  induction l with
  | refl => exact h
  | step _ ih => exact ih.up
theorem TuN.more {W : Nat} : ∀ {d : Nat} {H : Hp} {v : V} {s t : Nat}, s ≤ t → TuN W d H v s → TuN W d H v t
  | 0, _, _, _, _, l, h => ⟨h.1, by have := h.2; omega⟩
  | d + 1, H, v, s, t, l, h => by
    rcases h with h | ⟨a, xs, ss, e, h1, l1, h2, h3⟩
    · exact .inl ⟨h.1, by have := h.2; omega⟩
    · exact .inr ⟨a, xs, ss, e, h1, l1, h2, by omega⟩
theorem paired_mem {α β : Type} {R : α → β → Prop} : ∀ {xs : List α} {ys : List β}, Paired R xs ys → ∀ x ∈ xs, ∃ y, R x y
  | _, _, .nil, x, h => by cases h
  | _, _, .cons a t, x, h => by
    rcases List.mem_cons.mp h with e | h
    · exact ⟨_, e ▸ a⟩
    · exact paired_mem t x h
theorem TuN.tut {W : Nat} (w : W ≤ 1000) : ∀ {d : Nat} {H : Hp} {v : V} {s : Nat}, TuN W d H v s → TuT d H v
  | 0, _, _, _, h => h.1.fl
  | d + 1, H, v, s, h => by
    rcases h with h | ⟨a, xs, ss, e, h1, l, h2, h3⟩
    · exact .inl h.1.fl
    · exact .inr ⟨a, xs, e, h1, by omega, fun x hx => by
        obtain ⟨t, ht⟩ := paired_mem h2 x hx
        exact TuN.tut w ht⟩
theorem TuN.tup {W d : Nat} {H : Hp} {a : Addr} {xs : List V} {ss : List Nat} {s : Nat} (h : H a = some (.tup xs)) (l : xs.length ≤ W) (k : Paired (fun x t => TuN W d H x t) xs ss) (t : 1 + ss.sum ≤ s) : TuN W (d + 1) H (.ref a) s := .inr ⟨a, xs, ss, rfl, h, l, k, t⟩
theorem tuns_tk {W d : Nat} {H H' : Hp} (k : Tk H H') {xs : List V} {ss : List Nat} (h : Paired (fun x t => TuN W d H x t) xs ss) : Paired (fun x t => TuN W d H' x t) xs ss := Paired.mono (fun _ _ z => z.tk k) h
theorem tuns_ints {W d : Nat} {H : Hp} : ∀ xs : List Int, Paired (fun x t => TuN W d H x t) (xs.map V.int) (xs.map fun _ => 1)
  | [] => .nil
  | x :: xs => .cons (TuN.leaf (.inl ⟨x, rfl⟩) (Nat.le_refl _)) (tuns_ints xs)
theorem ones_sum : ∀ xs : List Int, (xs.map fun _ => 1).sum = xs.length
  | [] => rfl
  | x :: xs => by rw [List.map_cons, List.sum_cons, ones_sum xs, List.length_cons]; omega
theorem TuN.ints {W d : Nat} {H : Hp} {a : Addr} {xs : List Int} {s : Nat} (h : H a = some (.tup (xs.map V.int))) (l : xs.length ≤ W) (t : 1 + xs.length ≤ s) : TuN W (d + 1) H (.ref a) s := .tup h (by rw [List.length_map]; exact l) (tuns_ints xs) (by rw [ones_sum]; exact t)
theorem TuN.two {W d : Nat} {H : Hp} {a : Addr} {x y : V} {s t u : Nat} (w : 2 ≤ W) (h : H a = some (.tup [x, y])) (hx : TuN W d H x s) (hy : TuN W d H y t) (l : 1 + s + t ≤ u) : TuN W (d + 1) H (.ref a) u := .tup h w (.cons hx (.cons hy .nil)) (by simp only [List.sum_cons, List.sum_nil]; omega)
theorem tuns_same {W d c : Nat} {H : Hp} : ∀ {xs : List V}, (∀ x ∈ xs, TuN W d H x c) → ∃ ss : List Nat, Paired (fun x t => TuN W d H x t) xs ss ∧ ss.sum = xs.length * c
  | [], _ => ⟨[], .nil, by simp⟩
  | x :: xs, h => by
    obtain ⟨ss, h1, h2⟩ := tuns_same (xs := xs) fun y hy => h y (List.mem_cons_of_mem _ hy)
    exact ⟨c :: ss, .cons (h x List.mem_cons_self) h1, by rw [List.sum_cons, h2, List.length_cons, Nat.add_mul]; omega⟩
theorem TuN.all {W d c : Nat} {H : Hp} {a : Addr} {xs : List V} {s : Nat} (h : H a = some (.tup xs)) (l : xs.length ≤ W) (k : ∀ x ∈ xs, TuN W d H x c) (t : 1 + xs.length * c ≤ s) : TuN W (d + 1) H (.ref a) s := by
  obtain ⟨ss, h1, h2⟩ := tuns_same k
  exact .tup h l h1 (by rw [h2]; exact t)
theorem TuN.tks {W e c : Nat} {H H' : Hp} (k : Tk H H') {vs : List V} (h : ∀ v ∈ vs, TuN W e H v c) : ∀ v ∈ vs, TuN W e H' v c := fun v hv => (h v hv).tk k
theorem TuN.snoc {W e c : Nat} {H : Hp} {vs : List V} {v : V} (h : ∀ v ∈ vs, TuN W e H v c) (hv : TuN W e H v c) : ∀ x ∈ vs ++ [v], TuN W e H x c := fun x hx => (List.mem_append.mp hx).elim (h x) fun z => by rw [List.mem_singleton.mp z]; exact hv
theorem RowP.tun {W : Nat} (w : 41 ≤ W) {H : Hp} {v : V} {x : RwD} {ts : List Tie} {nums : List Int} {n k : Int} (h : RowP H v x) (r : RingD ts nums n k x.1) : TuN W 3 H v 88 := by
  obtain ⟨a, ra, rfl, h1, b, pa, ta, e, h2, h3, h4⟩ := h
  cases e
  obtain ⟨_, _, _, l2⟩ := r.nd
  have l1 : x.1.1.length ≤ 41 := by
    obtain ⟨ps, es, tie, k, rev, others, Wr, _, _, _, e, _⟩ := r
    have := (turnP_perm ps k rev).length_eq
    have few := Wr.few
    rw [e]
    show (turnP ps k rev).length ≤ 41
    omega
  exact .two (by omega) h1 (.two (by omega) h2 (s := 42) (t := 42) (u := 85) (.ints h3 (by omega) (by omega)) (.ints h4 (by omega) (by omega)) (by omega)) (.leaf (s := 1) (.inl ⟨_, rfl⟩) (Nat.le_refl _)) (by omega)
/-- how many parts a paper has at most -/
def capP : Nat → Nat
  | 0 => 800
  | k + 1 => 3 * (capP k + 130) + 10
theorem capP_le : ∀ k, 800 ≤ capP k
  | 0 => Nat.le_refl _
  | k + 1 => by
    have := capP_le k
    show 800 ≤ 3 * (capP k + 130) + 10
    omega
def rTup49 (K : PySem.W.Frag) : List V → Hp → VK → Prop := fun xs H Q => ∃ p ys, xs = [.ref p] ∧ ((SqL K H p ys ∧ ∀ l, H l = none → Q (.ref l) (upd H l (.tup ys))) ∨ (SqT K H p ys ∧ Q (.ref p) H))
def spPPaper : Nat → Sp
  | 0 => fun _ _ _ _ => False
  | k + 1 => fun vs H Q _ => ∃ (d c sb gb : Addr) (wv : V) (n : Int) (ts su : List Tie) (g : Int → Int) (given : List Int) (j : Nat), vs = [.ref d, wv, .ref sb, .ref gb, .int (j : Nat)] ∧ j ≤ k ∧ Deck H d c ∧ WorldAt H wv n ts g ∧ TiesAt H sb su ∧ WebOk n (ts ++ su) ∧ (ts ++ su).length + k ≤ 120 ∧ H gb = some (.tup (given.map V.int)) ∧ given.Pairwise (· < ·) ∧ (∀ e ∈ given, 0 ≤ e ∧ e < (ts.length : Int)) ∧ (∀ e ∈ given, 1 ≤ g e) ∧
    ∀ v z H', TuN 200 (5 + 3 * k) H' v (capP k) → ShowZ k H' n (ts ++ su) (limW g ts.length) given v z → Deck H' d c → Kp d c H H' → Q v H'
section
variable {P : Program} {w : World} {K : PySem.W.Frag} {mg : Str → Option Value} {base : Heap}
set_option maxHeartbeats 8000000 in
theorem ok_l_paper_step (k : Nat) {f : Addr} {fd : FuncData} (F : Fun K "_law_paper" "_law_paper" s_l_paper f fd) (M : Free mg) (D_l_draw : Df P w K mg base 1 "_law_draw" ["_law_feed_here", "_law_most"] spDraw) (D_l_ring_rows : Df P w K mg base 4 "_law_ring_rows" ["_law_feed_here", "_law_world_here", "_law_sure", "_law_given", "_law_most"] spPRows) (D_l_paper : Df P w K mg base (5 + k) "_law_paper" ["_law_feed_here", "_law_world_here", "_law_sure", "_law_given", "_law_deep"] (spPPaper k)) : FnOk P w K mg base CX0 (5 + k + 1) f fd ["_law_feed_here", "_law_world_here", "_law_sure", "_law_given", "_law_deep"] (spPPaper (k + 1)) := by
  obtain ⟨f_l_draw, fd_l_draw, G_l_draw, g_l_draw, k_l_draw, b_l_draw⟩ := D_l_draw
  obtain ⟨f_l_ring_rows, fd_l_ring_rows, G_l_ring_rows, g_l_ring_rows, k_l_ring_rows, b_l_ring_rows⟩ := D_l_ring_rows
  obtain ⟨f_l_paper, fd_l_paper, G_l_paper, g_l_paper, k_l_paper, b_l_paper⟩ := D_l_paper
  refine F.ok sc_l_paper (fun vs H Q E h => ?_) (fun cdv A outer s H vs Q E hr h => ?_)
  · obtain ⟨d, c, sb, gb, wv, n, ts, su, g, given, j0, rfl, _⟩ := h
    rfl
  · obtain ⟨d, c, sb, gb, wv, n, ts, su, g, given, j0, rfl, jk, D, Wd, Su, okS, l120, hgb, pwg, gin, gpos, q⟩ := h
    refine ⟨_, (pss_cons (ps_set (i := 5) sc_l_paper.nd rfl (.inl rfl) (pe_call G_l_draw (hr.mono (by omega)) (by rfl) g_l_draw k_l_draw b_l_draw .nil pass0 (pa_cons (pv 0) (pa_cons pe_int pa_nil))))
      (pss_cons (ps_if (PW.pt (pw_or (pt_cmpR op_eq (pv 4) pe_int (nomark _)) (pw_or1 (pt_cmpR op_lt (pv 5) pe_int (nomark _)))))
        (pss_one (ps_ret (pe_tup (pa_cons pe_str (pa_cons (pe_call G_l_ring_rows (hr.mono (by omega)) (by rfl) g_l_ring_rows k_l_ring_rows b_l_ring_rows .nil pass0 (pa_cons (pv 0) (pa_cons (pv 1) (pa_cons (pv 2) (pa_cons (pv 3) (pa_cons pe_int pa_nil)))))) pa_nil)))))
        pss_nil)
      (pss_cons (ps_if (pt_cmpR op_eq (pv 5) pe_int (nomark _))
        (pss_cons (ps_set (i := 6) sc_l_paper.nd rfl (.inl rfl) (pe_lst (pa_cons (pe_lst pa_nil) (pa_cons (pe_lst pa_nil) (pa_cons (pe_lst pa_nil) pa_nil)))))
        (pss_cons (ps_for PassesOwn.never rfl (pi_tup (pv 3)) (pg_name (i := 7) sc_l_paper.nd rfl (.inl rfl))
          (pss_one (ps_expr (pe_bm PySem.F.plainAttrs_list PySem.F.slot_list_append PySem.F.type_list_append mt_append (pe_ix ix_list (pv 6) (pe_call G_l_draw (hr.mono (by omega)) (by rfl) g_l_draw k_l_draw b_l_draw .nil pass0 (pa_cons (pv 0) (pa_cons pe_int pa_nil))) (fun _ _ => rfl)) (pa_cons (pv 7) pa_nil)))))
        (pss_one (ps_ret (pe_tup (pa_cons pe_str (pa_cons (pe_callTy call_tuple_of (by rfl) M.tuple (by decide +kernel) (pa_cons (pe_lc (own := [("_law_part_here", 8)]) (g := (gName 8)) (tt := tYes) rfl sc_l_paper.nd (pi_list (pe_slice sl_list (pv 6) po_none (po_some (pe_op op_add pe_int (pe_call G_l_draw (hr.mono (by omega)) (by rfl) g_l_draw k_l_draw b_l_draw .nil pass0 (pa_cons (pv 0) (pa_cons pe_int pa_nil))))))) (blkOk_by (N := N_l_paper) (sc := defScope s_l_paper) (own := [("_law_part_here", 8)]) (by decide +kernel)) (fun _ _ _ _ _ => (pg_name (i := 8) sc_l_paper.nd rfl (.inl rfl))) (fun _ _ _ _ _ => pts_nil) (fun _ _ _ _ _ => (pe_tup (pa_cons (pe_callTy (T := "tuple") (r := rTup49 K) call_tuple_of (by rfl) M.tuple (by decide +kernel) (pa_cons (pv 8) pa_nil)) (pa_cons (pe_call G_l_paper (hr.mono (by omega)) (by rfl) g_l_paper k_l_paper b_l_paper .nil pass0 (pa_cons (pv 0) (pa_cons (pv 1) (pa_cons (pv 2) (pa_cons (pe_callTy (T := "tuple") (r := rTup49 K) call_tuple_of (by rfl) M.tuple (by decide +kernel) (pa_cons (pv 8) pa_nil)) (pa_cons (pe_op op_sub (pv 4) pe_int) pa_nil)))))) pa_nil))))) pa_nil)) pa_nil)))))))
        pss_nil)
      (pss_cons (ps_if (pt_cmpR op_lt (pe_ix ix_tup (pv 1) pe_int (fun _ _ => rfl)) pe_int (nomark _))
        (pss_one (ps_ret (pe_tup (pa_cons pe_str (pa_cons (pe_tup pa_nil) pa_nil)))))
        pss_nil)
      (pss_cons (ps_set (i := 9) sc_l_paper.nd rfl (.inr rfl) (pe_call G_l_draw (hr.mono (by omega)) (by rfl) g_l_draw k_l_draw b_l_draw .nil pass0 (pa_cons (pv 0) (pa_cons (pe_ix ix_tup (pv 1) pe_int (fun _ _ => rfl)) pa_nil))))
      (pss_cons (ps_set (i := 10) sc_l_paper.nd rfl (.inr rfl) (pe_op op_mod (pe_op op_add (pe_op op_add (pv 9) pe_int) (pe_call G_l_draw (hr.mono (by omega)) (by rfl) g_l_draw k_l_draw b_l_draw .nil pass0 (pa_cons (pv 0) (pa_cons (pe_op op_sub (pe_ix ix_tup (pv 1) pe_int (fun _ _ => rfl)) pe_int) pa_nil)))) (pe_ix ix_tup (pv 1) pe_int (fun _ _ => rfl))))
      (pss_cons (ps_setLc (i := 11) (own := [("_law_kind", 12)]) (g := (gName 12)) (tt := tYes) rfl sc_l_paper.nd rfl rfl (sw_true rfl rfl rfl (by decide +kernel)) (pi_tup (pe_tup (pa_cons pe_str (pa_cons pe_str pa_nil)))) (blkOk_by (N := N_l_paper) (sc := defScope s_l_paper) (own := [("_law_kind", 12)]) (by decide +kernel)) (fun _ _ _ _ _ => (pg_name (i := 12) sc_l_paper.nd rfl (.inl rfl))) (fun _ _ _ _ _ => pts_nil) (fun _ _ _ _ _ => (pe_call G_l_paper (hr.mono (by omega)) (by rfl) g_l_paper k_l_paper b_l_paper .nil pass0 (pa_cons (pv 0) (pa_cons (pv 1) (pa_cons (pe_op op_catU (pv 2) (pe_tup (pa_cons (pe_tup (pa_cons (pv 9) (pa_cons (pv 10) (pa_cons (pv 12) pa_nil)))) pa_nil))) (pa_cons (pv 3) (pa_cons (pe_op op_sub (pv 4) pe_int) pa_nil))))))))
      (pss_one (ps_ret (pe_tup (pa_cons pe_str (pa_cons (pv 9) (pa_cons (pv 10) (pa_cons (pe_ix ix_list (pv 11) pe_int (fun _ _ => rfl)) (pa_cons (pe_ix ix_list (pv 11) pe_int (fun _ _ => rfl)) pa_nil))))))))))))))), ?_⟩
    obtain ⟨wa, tb, wt, us, rfl, hwa, htb, hp, _⟩ := id Wd.ex
    obtain ⟨us2, hsb, hp2⟩ := id Su
    have lts : (ts ++ su).length = ts.length + su.length := List.length_append ..
    have l2 := Paired.length hp2
    have lo := okS.low
    have ngv : given.Nodup := pwg.imp fun {a b} h => by omega
    have ll := limW_len g ts.length
    have lg : given.length ≤ ts.length := pigeon49 given ngv gin
    have cap := capP_le k
    refine ⟨.ref d, rfl, d, c, 4, rfl, D, by decide, by decide, fun w H1 w0 w1 D1 K1 => ?_⟩
    refine ⟨.int j0, rfl, rfl, _, rfl, ?_⟩
    refine ite2 (fun _ => ?r1) (fun hk0 => ⟨.int w, rfl, _, _, rfl, rfl, _, rfl, ite2 (fun _ => ?r2) (fun hw0 => ?r3)⟩)
    case r1 | r2 =>
      have k1 := K1.tk D
      refine ⟨.ref d, rfl, .ref wa, rfl, .ref sb, rfl, .ref gb, rfl, d, c, sb, gb, .ref wa, n, ts, su, g, given, 8, rfl, D1, Wd.tk k1, Su.tk k1, lo, k1 _ _ hgb, ngv, gin, gpos, by decide, by decide, fun r vs xs H2 hr hv hX lv D2 K2 => ⟨by show 2 ≤ sizeLine; decide, fun a na => ?_⟩⟩
      have s3 := same_new (o := .tup [.str "rings", .ref r]) na
      have hv3 := rowsP_tk (Same.tk s3) hv
      refine q _ _ _ ((TuN.two (W := 200) (d := 4) (by decide) upd_same (.leaf (s := 1) (.inr ⟨_, rfl, by decide⟩) (Nat.le_refl _)) (TuN.all (c := 88) (s := 705) (s3 _ _ hr) (by omega) (fun v hv' => ?_) (by omega)) (by omega)).mono (by omega)) ((ShowZ.rings upd_same (s3 _ _ hr) (hX.show hv3 okS gin)).mono (Nat.zero_le _)) (D2.same s3) ((K1.trans K2).trans (Same.kp s3))
      obtain ⟨i, hi⟩ := List.getElem?_of_mem hv'
      obtain ⟨x, ex, hx⟩ := Paired.at hv hi
      exact (hx.tk (Same.tk s3)).tun (by decide) (hX.ring x (List.mem_of_getElem? ex)).1
    obtain ⟨j0, rfl⟩ : ∃ j, j0 = j + 1 := ⟨j0 - 1, by
      have : j0 ≠ 0 := fun z => hk0 (by rw [z]; rfl)
      omega⟩
    obtain ⟨k, rfl⟩ : ∃ j, k = j + 1 := ⟨k - 1, by omega⟩
    have cap1 : capP (k + 1) = 3 * (capP k + 130) + 10 := rfl
    refine ⟨.int w, rfl, rfl, _, rfl, ?_⟩
    refine ite2 (fun _ => ?_) (fun hw1 => ?_)
    · refine ⟨Nat.zero_le _, fun A nA => ⟨Nat.zero_le _, fun B nB => ⟨Nat.zero_le _, fun C nC => ⟨by show 3 ≤ sizeLine; decide, fun L nL => ?_⟩⟩⟩⟩
      have sA := same_new (o := .lst []) nA
      have sB := same_new (o := .lst []) nB
      have sC := same_new (o := .lst []) nC
      have sL := same_new (o := .lst [.ref A, .ref B, .ref C]) nL
      obtain ⟨cell, hc0, hc1, hc2⟩ : ∃ cell : Nat → Addr, cell 0 = A ∧ cell 1 = B ∧ cell 2 = C := ⟨fun i => match i with | 0 => A | 1 => B | _ => C, rfl, rfl, rfl⟩
      have hA := sL _ _ (sC _ _ (sB _ _ (upd_same (H := H1) (a := A) (o := .lst []))))
      have hB := sL _ _ (sC _ _ (upd_same (H := upd H1 A (.lst [])) (a := B) (o := .lst [])))
      have hC := sL _ _ (upd_same (H := upd (upd H1 A (.lst [])) B (.lst [])) (a := C) (o := .lst []))
      have hL := upd_same (H := upd (upd (upd H1 A (.lst [])) B (.lst [])) C (.lst [])) (a := L) (o := .lst [.ref A, .ref B, .ref C])
      have BA : A ≠ B := ne_of_none (upd_same) nB
      have CA : A ≠ C := ne_of_none (sB _ _ upd_same) nC
      have CB : B ≠ C := ne_of_none upd_same nC
      have LA : A ≠ L := ne_of_none (sC _ _ (sB _ _ upd_same)) nL
      have LB : B ≠ L := ne_of_none (sC _ _ upd_same) nL
      have LC : C ≠ L := ne_of_none upd_same nL
      obtain ⟨Ad, Ac⟩ := D1.ned nA
      obtain ⟨Bd, Bc⟩ := (D1.same sA).ned nB
      obtain ⟨Cd, Cc⟩ := ((D1.same sA).same sB).ned nC
      obtain ⟨Ld, Lc⟩ := (((D1.same sA).same sB).same sC).ned nL
      have s1 := ((sA.trans sB).trans sC).trans sL
      have nA0 := K1.free nA Ad Ac
      have nB0 := K1.free (sA.free nB) Bd Bc
      have nC0 := K1.free (sA.free (sB.free nC)) Cd Cc
      generalize upd (upd (upd (upd H1 A (.lst [])) B (.lst [])) C (.lst [])) L (.lst [.ref A, .ref B, .ref C]) = H2 at hA hB hC hL s1
      have cfree : ∀ i < 3, H (cell i) = none ∧ cell i ≠ d ∧ cell i ≠ c ∧ cell i ≠ L := fun i hi => by
        have : i = 0 ∨ i = 1 ∨ i = 2 := by omega
        rcases this with rfl | rfl | rfl
        · rw [hc0]; exact ⟨nA0, Ad, Ac, LA⟩
        · rw [hc1]; exact ⟨nB0, Bd, Bc, LB⟩
        · rw [hc2]; exact ⟨nC0, Cd, Cc, LC⟩
      have cne : ∀ i < 3, ∀ j < 3, i ≠ j → cell i ≠ cell j := fun i hi j hj ij => by
        have : i = 0 ∨ i = 1 ∨ i = 2 := by omega
        have : j = 0 ∨ j = 1 ∨ j = 2 := by omega
        rcases ‹i = 0 ∨ i = 1 ∨ i = 2› with rfl | rfl | rfl <;> rcases ‹j = 0 ∨ j = 1 ∨ j = 2› with rfl | rfl | rfl <;> simp only [hc0, hc1, hc2] <;> first | exact absurd rfl ij | assumption | (intro z; exact BA z.symm) | (intro z; exact CA z.symm) | (intro z; exact CB z.symm)
      have cinit : ∀ i < 3, H2 (cell i) = some (.lst []) := fun i hi => by
        have : i = 0 ∨ i = 1 ∨ i = 2 := by omega
        rcases this with rfl | rfl | rfl
        · rw [hc0]; exact hA
        · rw [hc1]; exact hB
        · rw [hc2]; exact hC
      have lcell : ∀ i < 3, [V.ref A, V.ref B, V.ref C][i]? = some (.ref (cell i)) := fun i hi => by
        have : i = 0 ∨ i = 1 ∨ i = 2 := by omega
        rcases this with rfl | rfl | rfl
        · rw [hc0]; rfl
        · rw [hc1]; rfl
        · rw [hc2]; rfl
      have D2 := D1.same s1
      have K2 := K1.trans (Same.kp s1)
      clear sA sB sC sL hA hB hC BA CA CB LA LB LC Ad Ac Bd Bc Cd Cc nA nB nC nL nA0 nB0 nC0 hc0 hc1 hc2 s1 D1 K1
      refine ⟨.ref gb, rfl, gb, rfl, ⟨_, SqT.of (K2.tk D _ _ hgb)⟩, ?_⟩
      refine for_tup (xs := given.map V.int) (fun j σ' H' => ∃ (y7 : Option V) (p : Nat → List Int), σ' = [some (.ref d), some (.ref wa), some (.ref sb), some (.ref gb), some (.int (j0 + 1 : Nat)), some (.int w), some (.ref L), y7, none, none, none, none, none] ∧ H' L = some (.lst [.ref A, .ref B, .ref C]) ∧ (∀ i < 3, H' (cell i) = some (.lst ((p i).map V.int))) ∧ (∀ i < 3, (p i).Sublist (given.take j)) ∧ (∀ i < 3, ∀ z < 3, i ≠ z → ∀ e ∈ p i, e ∉ p z) ∧ Deck H' d c ∧ Kp d c H H') ⟨_, fun _ => [], rfl, hL, cinit, fun i _ => List.nil_sublist _, fun i _ z _ _ e he => (by cases he), D2, K2⟩ (fun j σ' H' _ h => by
        obtain ⟨_, _, _, _, _, _, _, _, kk⟩ := h
        exact SqT.of (kk.tk D _ _ hgb)) ?_ ?_
      · clear hL cinit D2 K2
        rintro j x σ' H3 ex ⟨y7, p, rfl, hL, hcell, hsub, hdis, D3, K3⟩
        rw [List.getElem?_map] at ex
        obtain ⟨e, ee, rfl⟩ := Option.map_eq_some_iff.mp ex
        have jl := (List.getElem?_eq_some_iff.mp ee).1
        refine ⟨.ref L, rfl, .ref d, rfl, d, c, 3, rfl, D3, by decide, by decide, fun r H4 r0 r1 D4 K4 => ?_⟩
        obtain ⟨i, rfl⟩ : ∃ i : Nat, r = (i : Int) := ⟨r.toNat, by omega⟩
        have i3 : i < 3 := by omega
        have hL4 := K4 _ _ Ld Lc hL
        obtain ⟨f0, fd0, fc0, fL0⟩ := cfree i i3
        have hci := K4 _ _ fd0 fc0 (hcell i i3)
        have lp := (hsub i i3).length_le
        rw [List.length_take] at lp
        refine ⟨L, _, (i : Int), .ref (cell i), rfl, rfl, SqL.of hL4, atI_nat (lcell i i3), .inl ⟨rfl, _, SqL.of hci⟩, .int e, rfl, cell i, _, _, rfl, rfl, hci, by rw [List.length_map]; exact small1000 (by omega), ?_⟩
        obtain ⟨p', hpi, hpz⟩ : ∃ p' : Nat → List Int, p' i = p i ++ [e] ∧ ∀ z, z ≠ i → p' z = p z := ⟨fun z => if z = i then p i ++ [e] else p z, if_pos rfl, fun z h => if_neg h⟩
        refine ⟨_, p', rfl, by rw [upd_ne fL0.symm]; exact hL4, fun z hz => ?_, fun z hz => ?_, fun y hy z hz yz b hb => ?_, D4.mut fd0 fc0, (K3.trans K4).mut f0⟩
        · by_cases h : z = i
          · rw [h, upd_same, hpi, List.map_append]
            rfl
          · rw [upd_ne (cne z hz i i3 h), hpz z h]
            obtain ⟨_, a1, a2, _⟩ := cfree z hz
            exact K4 _ _ a1 a2 (hcell z hz)
        · rw [List.take_add_one, ee]
          by_cases h : z = i
          · rw [h, hpi]
            exact (hsub i i3).append (List.Sublist.refl _)
          · rw [hpz z h]
            exact (hsub z hz).trans (List.sublist_append_left _ _)
        · have enew : ∀ q < 3, e ∉ p q := fun q hq he => by
            have h1 := (hsub q hq).subset he
            obtain ⟨i', hi'⟩ := List.getElem?_of_mem h1
            have il' := (List.getElem?_eq_some_iff.mp hi').1
            rw [List.length_take] at il'
            rw [List.getElem?_take_of_lt (by omega)] at hi'
            have h2 := List.getElem?_eq_some_iff.mp hi'
            have h3 := List.getElem?_eq_some_iff.mp ee
            exact List.pairwise_iff_getElem.mp ngv i' j h2.1 jl (by omega) (h2.2.trans h3.2.symm)
          by_cases h : y = i
          · have zi : z ≠ i := fun t => yz (h.trans t.symm)
            rw [h, hpi] at hb
            rw [hpz z zi]
            rcases List.mem_append.mp hb with hb | hb
            · exact hdis i i3 z hz (fun t => zi t.symm) b hb
            · rw [List.mem_singleton.mp hb]
              exact enew z hz
          · rw [hpz y h] at hb
            by_cases h2 : z = i
            · rw [h2, hpi]
              intro t
              rcases List.mem_append.mp t with t | t
              · exact hdis y hy i i3 h b hb t
              · rw [List.mem_singleton.mp t] at hb
                exact enew y hy hb
            · rw [hpz z h2]
              exact hdis y hy z hz yz b hb
      rintro σ' H3 ⟨y7, p, rfl, hL, hcell, hsub, hdis, D3, K3⟩
      rw [List.length_map, List.take_length] at hsub
      refine ⟨.ref L, rfl, .ref d, rfl, d, c, 3, rfl, D3, by decide, by decide, fun r H4 r0 r1 D4 K4 => ⟨_, _, rfl, rfl, 1 + r, rfl, L, _, rfl, SqL.of (K4 _ _ Ld Lc hL), fun S nS => ?_⟩⟩
      rw [cut_takeP (by omega)]
      have s5 := same_new (o := .lst ([V.ref A, V.ref B, V.ref C].take (1 + r).toNat)) nS
      have hS := upd_same (H := H4) (a := S) (o := .lst ([V.ref A, V.ref B, V.ref C].take (1 + r).toNat))
      obtain ⟨Sd, Sc⟩ := D4.ned nS
      have D5 := D4.same s5
      have K5 := (K3.trans K4).trans (Same.kp s5)
      have hcell5 : ∀ i < 3, (upd H4 S (.lst ([V.ref A, V.ref B, V.ref C].take (1 + r).toNat))) (cell i) = some (.lst ((p i).map V.int)) := fun i hi => by
        obtain ⟨_, a1, a2, _⟩ := cfree i hi
        exact s5 _ _ (K4 _ _ a1 a2 (hcell i hi))
      generalize upd H4 S (.lst ([V.ref A, V.ref B, V.ref C].take (1 + r).toNat)) = H5 at hS D5 K5 hcell5
      clear s5 nS D4 K4 D3 K3 hL hcell D2 K2 cinit
      refine ⟨S, rfl, ⟨_, SqL.of hS⟩, fun Z nZ => ?_⟩
      have sZ := same_new (o := .lst []) nZ
      obtain ⟨Zd, Zc⟩ := D5.ned nZ
      refine lc_list (K := K) (xs := [V.ref A, V.ref B, V.ref C].take (1 + r).toNat) (fun i H' => ∃ vs : List V, H' Z = some (.lst vs) ∧ vs.length = i ∧ (∀ v ∈ vs, TuN 200 (6 + 3 * k) H' v (capP k + 125)) ∧ (∃ xs : List (List Int × Int), Paired (SplP (5 + 3 * k) k H' n (ts ++ su) (limW g ts.length)) vs xs ∧ xs.map (·.1) = (List.range i).map p) ∧ Deck H' d c ∧ Kp d c H5 H') ⟨[], upd_same, rfl, fun v h => (by cases h), ⟨[], .nil, rfl⟩, D5.same sZ, Same.kp sZ⟩ (fun i H' _ h => by
        obtain ⟨_, _, _, _, _, _, kk⟩ := h
        exact SqL.of (kk _ _ Sd Sc hS)) ?_ ?_
      · rintro i x H6 ei ⟨vs, hZ, lv, hvs, ⟨xs, hxs, exs⟩, D6, K6⟩
        have i3 : i < 3 := by
          have := (List.getElem?_eq_some_iff.mp ei).1
          rw [List.length_take] at this
          have e3 : [V.ref A, V.ref B, V.ref C].length = 3 := rfl
          omega
        have il : i < (1 + r).toNat := by
          have := (List.getElem?_eq_some_iff.mp ei).1
          rw [List.length_take] at this
          omega
        rw [List.getElem?_take_of_lt il, lcell i i3] at ei
        cases ei
        obtain ⟨f0, fd0, fc0, fL0⟩ := cfree i i3
        have hci := K6 _ _ fd0 fc0 (hcell5 i i3)
        have sb' := hsub i i3
        have lp := sb'.length_le
        refine ⟨rfl, .ref (cell i), rfl, cell i, _, rfl, .inl ⟨SqL.of hci, fun a na => ?_⟩⟩
        have s7 := same_new (o := .tup ((p i).map V.int)) na
        have h7 := upd_same (H := H6) (a := a) (o := .tup ((p i).map V.int))
        generalize upd H6 a (.tup ((p i).map V.int)) = H7 at s7 h7
        refine ⟨.ref d, rfl, .ref wa, rfl, .ref sb, rfl, .ref (cell i), rfl, cell i, _, rfl, .inl ⟨SqL.of (s7 _ _ hci), fun b nb => ?_⟩⟩
        have s8 := same_new (o := .tup ((p i).map V.int)) nb
        have h8 := upd_same (H := H7) (a := b) (o := .tup ((p i).map V.int))
        have h78 := s8 _ _ h7
        have s68 := s7.trans s8
        generalize upd H7 b (.tup ((p i).map V.int)) = H8 at s68 h8 h78
        clear s7 s8 h7 na nb
        have D8 := D6.same s68
        have K08 := (K5.trans K6).trans (Same.kp s68)
        refine ⟨.int ((j0 + 1 : Nat) : Int), rfl, _, _, rfl, rfl, d, c, sb, b, .ref wa, n, ts, su, g, p i, j0, congrArg (fun z => [V.ref d, V.ref wa, V.ref sb, V.ref b, V.int z]) (by omega), by omega, D8, Wd.tk (K08.tk D), Su.tk (K08.tk D), okS, by omega, h8, pwg.sublist sb', fun e he => gin e (sb'.subset he), fun e he => gpos e (sb'.subset he), fun v z9 H9 hv hsh D9 K9 => ⟨by show 2 ≤ sizeLine; decide, fun e ne => ?_⟩⟩
        have s10 := same_new (o := .tup [.ref a, v]) ne
        have h10 := upd_same (H := H9) (a := e) (o := .tup [.ref a, v])
        have tr : TuN 200 (6 + 3 * k) (upd H9 e (.tup [.ref a, v])) (.ref e) (capP k + 125) := (TuN.two (W := 200) (d := 5 + 3 * k) (s := 121) (t := capP k) (by decide) h10 ((TuN.ints (W := 200) (d := 4 + 3 * k) (s10 _ _ (K9.tk D8 _ _ h78)) (by omega) (by omega)).mono (by omega)) (hv.tk (Same.tk s10)) (by omega)).mono (by omega)
        have sp10 : SplP (5 + 3 * k) k (upd H9 e (.tup [.ref a, v])) n (ts ++ su) (limW g ts.length) (.ref e) (p i, z9) := ⟨e, a, v, rfl, h10, s10 _ _ (K9.tk D8 _ _ h78), (hv.tut (by decide)).pap.stay (.same s10), hsh.stay (hv.tut (by decide)).pap (.same s10)⟩
        have D10 := D9.same s10
        have K610 := ((Same.kp (d := d) (c := c) s68).trans K9).trans (Same.kp s10)
        generalize upd H9 e (.tup [.ref a, v]) = H10 at tr sp10 D10 K610
        have hZ10 := K610 _ _ Zd Zc hZ
        have stp := (StayP.kp D6 D10 K610).trans (StayP.lst (ys := vs ++ [.ref e]) hZ10)
        exact ⟨_, hZ10, small1000 (by omega), vs ++ [.ref e], upd_same, by rw [List.length_append, lv]; rfl, TuN.snoc (TuN.tks ((K610.tk D6).trans (tk_lst hZ10)) hvs) (tr.tk (tk_lst hZ10)), ⟨xs ++ [(p i, z9)], Paired.snoc (splP_stay ((K610.tk D6).trans (tk_lst hZ10)) stp hxs) (sp10.stay (tk_lst hZ10) (StayP.lst hZ10)), by rw [List.map_append, exs, List.range_succ, List.map_append]; rfl⟩, D10.mut Zd Zc, (K6.trans K610).mut nZ⟩
      rintro H6 ⟨vs, hZ, lv, hvs, ⟨xs, hxs, exs⟩, D6, K6⟩
      have l3 : vs.length ≤ 3 := by
        rw [lv, List.length_take]
        have e3 : [V.ref A, V.ref B, V.ref C].length = 3 := rfl
        omega
      refine ⟨Z, _, rfl, .inl ⟨SqL.of hZ, fun a na => ⟨by show 2 ≤ sizeLine; decide, fun r' nr => ?_⟩⟩⟩
      have s7 := same_new (o := .tup vs) na
      have s8 := same_new (o := .tup [.str "split", .ref a]) nr
      have s78 := s7.trans s8
      have spd : SplD (limW g ts.length).length given xs := by
        have mem : ∀ x ∈ xs, ∃ i < 3, x.1 = p i := fun x hx => by
          have h1 : x.1 ∈ xs.map (·.1) := List.mem_map_of_mem hx
          rw [exs] at h1
          obtain ⟨i, hi, e⟩ := List.mem_map.mp h1
          have := List.mem_range.mp hi
          have l4 : ([V.ref A, V.ref B, V.ref C].take (1 + r).toNat).length ≤ 3 := by
            rw [List.length_take]
            exact Nat.min_le_right _ _
          exact ⟨i, by omega, e.symm⟩
        refine ⟨fun x hx => ?_, fun x hx e he => ?_, ?_⟩
        · obtain ⟨i, hi, e⟩ := mem x hx
          rw [e]
          exact pwg.sublist (hsub i hi)
        · obtain ⟨i, hi, e'⟩ := mem x hx
          rw [e'] at he
          have := (hsub i hi).subset he
          rw [ll]
          exact ⟨gin e this, this⟩
        · have h1 : (xs.map (·.1)).Pairwise (fun a b => ∀ e ∈ b, e ∉ a) := by
            rw [exs, List.pairwise_map]
            refine List.pairwise_lt_range.imp_of_mem fun {a b} ha hb h e he => ?_
            have ha := List.mem_range.mp ha
            have hb := List.mem_range.mp hb
            have l4 : ([V.ref A, V.ref B, V.ref C].take (1 + r).toNat).length ≤ 3 := by
              rw [List.length_take]
              exact Nat.min_le_right _ _
            exact hdis b (by omega) a (by omega) (by omega) e he
          exact List.pairwise_map.mp h1
      have hxs8 := splP_stay (Same.tk s78) (.same s78) hxs
      refine q _ _ _ ((TuN.two (W := 200) (d := 7 + 3 * k) (s := 1) (t := 1 + 3 * (capP k + 125)) (by decide) upd_same (.leaf (.inr ⟨_, rfl, by decide⟩) (Nat.le_refl _)) ((TuN.all (d := 6 + 3 * k) (c := capP k + 125) (s8 _ _ upd_same) (by omega) (TuN.tks (Same.tk s78) hvs) (Nat.add_le_add_left (Nat.mul_le_mul_right _ l3) 1)).mono (by omega)) (by omega)).mono (by omega)) (ShowZ.split upd_same (s8 _ _ upd_same) hxs8 spd) (D6.same s78) ((K5.trans K6).trans (Same.kp s78))
    · have hn := lo.lo
      have hn2 := lo.hi
      have hwa1 := K1.tk D _ _ hwa
      refine ⟨.ref wa, rfl, wa, _, 0, .int n, rfl, rfl, SqT.of hwa1, rfl, _, _, rfl, rfl, _, rfl, ?_⟩
      cases hn1 : decide (n < 2) with
      | true =>
        refine ⟨Nat.zero_le _, fun e ne => ⟨by show 2 ≤ sizeLine; decide, fun r nr => ?_⟩⟩
        have s7 := same_new (o := .tup []) ne
        have s8 := same_new (o := .tup [.str "split", .ref e]) nr
        have s78 := s7.trans s8
        exact q _ _ _ ((TuN.two (W := 200) (d := 1) (s := 1) (t := 1) (by decide) upd_same (.leaf (.inr ⟨_, rfl, by decide⟩) (Nat.le_refl _)) (TuN.all (c := 1) (s8 _ _ upd_same) (Nat.zero_le _) (fun v hv => by cases hv) (Nat.le_refl _)) (by omega)).mono (by omega)) ((ShowZ.split (e := 0) (k := 0) (xs := []) upd_same (s8 _ _ upd_same) .nil ⟨fun x hx => (by cases hx), fun x hx => (by cases hx), .nil⟩).mono (by omega)) (D1.same s78) (K1.trans (Same.kp s78))
      | false =>
      have n2 : 2 ≤ n := by have := of_decide_eq_false hn1; omega
      refine ⟨.ref d, rfl, .ref wa, rfl, wa, _, 0, .int n, rfl, rfl, SqT.of hwa1, rfl, d, c, n, rfl, D1, by omega, nb120 (by omega) (by omega), fun x H2 x0 x1 D2 K2 => ?_⟩
      have K02 := K1.trans K2
      clear D1 K1 K2 hwa1
      have hwa2 := K02.tk D _ _ hwa
      refine ⟨.int x, rfl, _, _, rfl, rfl, .ref d, rfl, .ref wa, rfl, wa, _, 0, .int n, rfl, rfl, SqT.of hwa2, rfl, _, _, rfl, rfl, d, c, _, rfl, D2, by omega, nb120 (by omega) (by omega), fun b H3 b0 b1 D3 K3 => ⟨_, _, rfl, rfl, .ref wa, rfl, wa, _, 0, .int n, rfl, rfl, SqT.of (K3.tk D2 _ _ hwa2), rfl, _, _, rfl, rfl, show (0 : Int) < n by omega, ?_⟩⟩
      have zr := mod_rng (a := x + 1 + b) (m := n) (by omega)
      have xy := other_ne x0 x1 b0 b1
      have K03 := K02.trans K3
      clear D2 K02 K3 hwa2
      obtain ⟨y, ey⟩ : ∃ y, y = (x + 1 + b) % n := ⟨_, rfl⟩
      rw [← ey] at zr xy
      refine ⟨by show 2 ≤ sizeLine; decide, fun p np => ?_⟩
      have s4 := same_new (o := .tup [.str "friend", .str "foe"]) np
      have h4 := upd_same (H := H3) (a := p) (o := .tup [.str "friend", .str "foe"])
      have D4 := D3.same s4
      have K04 := K03.trans (Same.kp s4)
      generalize upd H3 p (.tup [.str "friend", .str "foe"]) = H4 at h4 D4 K04
      clear s4 np D3 K03
      refine ⟨p, rfl, ⟨_, SqT.of h4⟩, fun Z nZ => ?_⟩
      have sZ := same_new (o := .lst []) nZ
      obtain ⟨Zd, Zc⟩ := D4.ned nZ
      refine lc_tup (K := K) (xs := [.str "friend", .str "foe"]) (fun j H' => ∃ xs : List V, H' Z = some (.lst xs) ∧ xs.length = j ∧ (∀ x ∈ xs, TuN 200 (5 + 3 * k) H' x (capP k)) ∧ (∀ i v, xs[i]? = some v → ∃ z, ShowZ k H' n (ts ++ (su ++ [⟨x, y, decide (i = 1)⟩])) (limW g ts.length) given v z) ∧ Deck H' d c ∧ Kp d c H4 H') ⟨[], upd_same, rfl, fun x h => (by cases h), fun i v h => (by simp at h), D4.same sZ, Same.kp sZ⟩ (fun i H' _ h => by
        obtain ⟨_, _, _, _, _, _, kk⟩ := h
        exact SqT.of (kk.tk D4 _ _ h4)) ?_ ?_
      · rintro j v H5 ev ⟨xs, hZ, lj, hx, hsh, D5, K5⟩
        have il : j < 2 := (List.getElem?_eq_some_iff.mp ev).1
        obtain ⟨kd, rfl, ekd⟩ : ∃ kd : Bool, v = .str (kindS kd) ∧ kd = decide (j = 1) := by
          match j, ev with
          | 0, e => cases e; exact ⟨false, rfl, rfl⟩
          | 1, e => cases e; exact ⟨true, rfl, rfl⟩
          | i + 2, e => simp at e
        have K05 := K04.trans K5
        refine ⟨rfl, .ref d, rfl, .ref wa, rfl, .ref sb, rfl, .int x, rfl, .int y, by rw [ey]; rfl, .str (kindS kd), rfl, by show 3 ≤ sizeLine; decide, fun c1 nc1 => ⟨by show 1 ≤ sizeLine; decide, fun c2 nc2 => ?_⟩⟩
        have s6 := same_new (o := .tup [.int x, .int y, .str (kindS kd)]) nc1
        have hc1 := upd_same (H := H5) (a := c1) (o := .tup [.int x, .int y, .str (kindS kd)])
        generalize upd H5 c1 (.tup [.int x, .int y, .str (kindS kd)]) = H6 at s6 hc1 nc2
        have s7 := same_new (o := .tup [.ref c1]) nc2
        have hc2 := upd_same (H := H6) (a := c2) (o := .tup [.ref c1])
        have hc17 := s7 _ _ hc1
        generalize upd H6 c2 (.tup [.ref c1]) = H7 at s7 hc2 hc17
        have s57 := s6.trans s7
        have K07 := K05.trans (Same.kp s57)
        refine ⟨sb, c2, us2, [.ref c1], rfl, rfl, K07.tk D _ _ hsb, hc2, by rw [List.length_singleton]; omega, fun r H8 s8 hr8 => ?_⟩
        have s58 := s57.trans s8
        have K08 := K05.trans (Same.kp s58)
        have D8 := D5.same s58
        have hc18 := s8 _ _ hc17
        refine ⟨.ref gb, rfl, .int ((j0 + 1 : Nat) : Int), rfl, _, _, rfl, rfl, d, c, r, gb, .ref wa, n, ts, su ++ [⟨x, y, kd⟩], g, given, j0, congrArg (fun z => [V.ref d, V.ref wa, V.ref r, V.ref gb, V.int z]) (by omega), by omega, D8, Wd.tk (K08.tk D), ⟨_, hr8, Paired.snoc (ties_tk (K08.tk D) hp2) ⟨c1, rfl, hc18⟩⟩, okS.snoc (by omega) ⟨x0, x1⟩ zr xy, by rw [← List.append_assoc, List.length_append, List.length_singleton]; omega, K08.tk D _ _ hgb, pwg, gin, gpos, fun v z9 H9 hv hs9 D9 K9 => ?_⟩
        have K59 := (Same.kp s58).trans K9
        have hZ9 := K59 _ _ Zd Zc hZ
        refine ⟨_, hZ9, small1000 (by omega), xs ++ [v], upd_same, by rw [List.length_append, lj]; rfl, TuN.snoc (TuN.tks ((K59.tk D5).trans (tk_lst hZ9)) hx) (hv.tk (tk_lst hZ9)), fun i w hw => ?_, D9.mut Zd Zc, (K5.trans K59).mut nZ⟩
        have stp := (StayP.kp D5 D9 K59).trans (StayP.lst (ys := xs ++ [v]) hZ9)
        by_cases hi : i < xs.length
        · rw [List.getElem?_append_left hi] at hw
          obtain ⟨z, hz⟩ := hsh i w hw
          exact ⟨z, hz.stay ((hx w (List.mem_of_getElem? hw)).tut (by decide)).pap stp⟩
        · have hi2 := (List.getElem?_eq_some_iff.mp hw).1
          rw [List.length_append, List.length_singleton] at hi2
          have ei : i = xs.length := by omega
          subst ei
          rw [List.getElem?_append_right (Nat.le_refl _), Nat.sub_self] at hw
          cases hw
          rw [lj, ← ekd]
          exact ⟨z9, hs9.stay (hv.tut (by decide)).pap (StayP.lst hZ9)⟩
      · rintro H5 ⟨xs, hZ, lj, hx, hsh, D5, K5⟩
        have K05 := K04.trans K5
        match xs, lj, hx, hZ, hsh with
        | [a, b'], _, hx, hZ, hsh =>
        obtain ⟨z1, hz1⟩ := hsh 0 a rfl
        obtain ⟨z2, hz2⟩ := hsh 1 b' rfl
        rw [← List.append_assoc] at hz1 hz2
        refine ⟨.int x, rfl, .int y, by rw [ey]; rfl, .ref Z, rfl, Z, _, 0, a, rfl, rfl, SqL.of hZ, rfl, .ref Z, rfl, Z, _, 1, b', rfl, rfl, SqL.of hZ, rfl, by show 5 ≤ sizeLine; decide, fun r nr => ?_⟩
        have s6 := same_new (o := .tup [.str "case", .int x, .int y, a, b']) nr
        have pa := ((hx a (by simp)).tut (by decide)).pap
        have pb := ((hx b' (by simp)).tut (by decide)).pap
        exact q _ _ _ ((TuN.tup (W := 200) (d := 5 + 3 * k) (ss := [1, 1, 1, capP k, capP k]) upd_same (by show 5 ≤ 200; decide) (.cons (.leaf (.inr ⟨_, rfl, by decide⟩) (Nat.le_refl _)) (.cons (.leaf (.inl ⟨_, rfl⟩) (Nat.le_refl _)) (.cons (.leaf (.inl ⟨_, rfl⟩) (Nat.le_refl _)) (.cons ((hx a (by simp)).tk (Same.tk s6)) (.cons ((hx b' (by simp)).tk (Same.tk s6)) .nil))))) (by simp only [List.sum_cons, List.sum_nil]; omega)).mono (by omega)) (ShowZ.case upd_same ⟨x0, x1⟩ zr xy (hz1.stay pa (.same s6)) (hz2.stay pb (.same s6))) (D5.same s6) (K05.trans (Same.kp s6))
/-- by depth -/
theorem ok_l_paper {f : Addr} {fd : FuncData} (F : Fun K "_law_paper" "_law_paper" s_l_paper f fd) (M : Free mg) (gA : mg "_law_paper" = some (.ref f)) (bA : Binds K fd ["_law_feed_here", "_law_world_here", "_law_sure", "_law_given", "_law_deep"] []) (D_l_draw : Df P w K mg base 1 "_law_draw" ["_law_feed_here", "_law_most"] spDraw) (D_l_ring_rows : Df P w K mg base 4 "_law_ring_rows" ["_law_feed_here", "_law_world_here", "_law_sure", "_law_given", "_law_most"] spPRows) :
    ∀ k : Nat, FnOk P w K mg base CX0 (5 + k) f fd ["_law_feed_here", "_law_world_here", "_law_sure", "_law_given", "_law_deep"] (spPPaper k)
  | 0 => ⟨fun vs H Q E h => h.elim, fun B out z H ar us vs Q E _ _ _ _ h => h.elim⟩
  | k + 1 => ok_l_paper_step k F M D_l_draw D_l_ring_rows ⟨f, fd, ok_l_paper F M gA bA D_l_draw D_l_ring_rows k, gA, F.kp, bA⟩
end
/-! ### papers: spots in things, parts at them, parts put in -/
def Pth (H : Hp) : V → List Int → V → Prop
  | v, [], p => v = p
  | v, k :: ks, p => ∃ (a : Addr) (xs : List V) (x : V), v = .ref a ∧ H a = some (.tup xs) ∧ 0 ≤ k ∧ xs[k.toNat]? = some x ∧ Pth H x ks p
theorem Pth.tk {H H' : Hp} (t : Tk H H') : ∀ {v : V} {ks : List Int} {p : V}, Pth H v ks p → Pth H' v ks p
  | _, [], _, h => h
  | _, _ :: _, _, h => by
    obtain ⟨a, xs, x, e, h1, h2, h3, h4⟩ := h
    exact ⟨a, xs, x, e, t _ _ h1, h2, h3, Pth.tk t h4⟩
theorem Pth.snoc {H : Hp} {a : Addr} {xs : List V} {k : Int} {x : V} (ha : H a = some (.tup xs)) (k0 : 0 ≤ k) (hx : xs[k.toNat]? = some x) : ∀ {v : V} {ks : List Int}, Pth H v ks (.ref a) → Pth H v (ks ++ [k]) x
  | v, [], h => by
    have h : v = .ref a := h
    exact ⟨a, xs, x, h, ha, k0, hx, rfl⟩
  | v, _ :: _, h => by
    obtain ⟨b, ys, y, e, h1, h2, h3, h4⟩ := h
    exact ⟨b, ys, y, e, h1, h2, h3, Pth.snoc ha k0 hx h4⟩
def spPart : Sp := fun vs H Q _ => ∃ (v : V) (b : Addr) (ks : List Int) (p : V), vs = [v, .ref b] ∧ H b = some (.tup (ks.map V.int)) ∧ Pth H v ks p ∧ Q p H
/-- a spot told in a list -/
def SpotR (W d : Nat) (v : V) (H : Hp) (l : V) (s : Nat) : Prop := ∃ (b : Addr) (ks : List Int) (p : V) (e : Nat), l = .ref b ∧ H b = some (.tup (ks.map V.int)) ∧ Pth H v ks p ∧ TuN W e H p s ∧ e + ks.length ≤ d
theorem SpotR.tk {W d : Nat} {v : V} {H H' : Hp} (t : Tk H H') {l : V} {s : Nat} (h : SpotR W d v H l s) : SpotR W d v H' l s := by
  obtain ⟨b, ks, p, e, h1, h2, h3, h4, h5⟩ := h
  exact ⟨b, ks, p, e, h1, t _ _ h2, h3.tk t, h4.tk t, h5⟩
theorem spots_tk {W d : Nat} {v : V} {H H' : Hp} (t : Tk H H') {ls : List V} {ss : List Nat} (h : Paired (SpotR W d v H) ls ss) : Paired (SpotR W d v H') ls ss := Paired.mono (fun _ _ z => z.tk t) h
theorem spots_len {W d : Nat} {v : V} {H : Hp} : ∀ {ls : List V} {ss : List Nat}, Paired (SpotR W d v H) ls ss → ls.length ≤ ss.sum
  | _, _, .nil => Nat.le_refl _
  | _, _, .cons a t => by
    obtain ⟨_, _, _, _, _, _, _, h, _⟩ := a
    have := spots_len t
    have := h.pos
    rw [List.length_cons, List.sum_cons]
    omega
theorem paired_get {α β : Type} {R : α → β → Prop} : ∀ {xs : List α} {ys : List β}, xs.length = ys.length → (∀ (i : Nat) (x : α) (y : β), xs[i]? = some x → ys[i]? = some y → R x y) → Paired R xs ys
  | [], [], _, _ => .nil
  | [], _ :: _, l, _ => by simp at l
  | _ :: _, [], l, _ => by simp at l
  | x :: xs, y :: ys, l, h => .cons (h 0 x y rfl rfl) (paired_get (by simpa using l) fun i a b e1 e2 => h (i + 1) a b (by simpa using e1) (by simpa using e2))
def SpotW (W d S : Nat) (v : V) (H : Hp) (l : V) : Prop := ∃ s, s ≤ S ∧ SpotR W d v H l s
theorem le_sumN : ∀ {cs : List Nat} {i x : Nat}, cs[i]? = some x → x ≤ cs.sum
  | [], _, _, h => by simp at h
  | c :: cs, 0, x, h => by
    have h : c = x := by simpa using h
    rw [List.sum_cons]
    omega
  | c :: cs, i + 1, x, h => by
    have := le_sumN (cs := cs) (i := i) (x := x) (by simpa using h)
    rw [List.sum_cons]
    omega
def spSpots : Sp := fun vs H Q _ => ∃ (v : V) (W d S : Nat), vs = [v] ∧ TuN W d H v S ∧ W ≤ 1000 ∧ d ≤ 1000 ∧ S ≤ 100000 ∧
  ∀ r ls H', H' r = some (.lst ls) → (∀ l ∈ ls, SpotW W d S v H' l) → 0 < ls.length → ls.length ≤ S → Same H H' → H r = none → Q (.ref r) H'
theorem sum_put {k sk r : Nat} : ∀ {i : Nat} {ss : List Nat}, ss[i]? = some sk → (ss.take i ++ [sk + r] ++ ss.drop (i + 1)).sum = ss.sum + r
  | _, [], h => by simp at h
  | 0, s :: ss, h => by
    have h : s = sk := by simpa using h
    simp [h]
    omega
  | i + 1, s :: ss, h => by
    have := sum_put (k := k) (sk := sk) (r := r) (i := i) (ss := ss) (by simpa using h)
    simp only [List.take_succ_cons, List.drop_succ_cons, List.cons_append, List.sum_cons] at this ⊢
    omega
def spPut (W : Nat) : Nat → Sp
  | 0 => fun _ _ _ _ => False
  | m + 1 => fun vs H Q _ => ∃ (v part : V) (b : Addr) (ks : List Int) (p : V) (d e D s r : Nat), vs = [v, .ref b, part] ∧ H b = some (.tup (ks.map V.int)) ∧ ks.length ≤ m ∧ Pth H v ks p ∧ W ≤ 1000 ∧ TuN W d H v s ∧ TuN W e H part r ∧ d ≤ D ∧ e + ks.length ≤ D ∧ ∀ v' H', TuN W D H' v' (s + r) → Same H H' → Q v' H'
section
variable {P : Program} {w : World} {K : PySem.W.Frag} {mg : Str → Option Value} {base : Heap}
set_option maxHeartbeats 4000000 in
theorem ok_l_part {f : Addr} {fd : FuncData} (F : Fun K "_law_part" "_law_part" s_l_part f fd)  : FnOk P w K mg base CX0 1 f fd ["_law_thing", "_law_spot"] spPart := by
  refine F.ok sc_l_part (fun vs H Q E h => ?_) (fun cdv A outer s H vs Q E hr h => ?_)
  · obtain ⟨v, b, ks, p, rfl, _⟩ := h
    rfl
  · obtain ⟨v, b, ks, p, rfl, hb, hP, q⟩ := h
    refine ⟨_, (pss_cons (ps_for PassesOwn.never rfl (pi_tup (pv 1)) (pg_name (i := 2) sc_l_part.nd rfl (.inl rfl))
        (pss_one (ps_set (i := 0) sc_l_part.nd rfl (.inl rfl) (pe_ix ix_tup (pv 0) (pv 2) (fun _ _ => rfl)))))
      (pss_one (ps_ret (pv 0)))), ?_⟩
    refine ⟨.ref b, rfl, b, rfl, ⟨_, SqT.of hb⟩, ?_⟩
    refine for_tup (xs := ks.map V.int) (fun i σ' H' => ∃ (y2 : Option V) (cur : V), σ' = [some cur, some (.ref b), y2] ∧ Pth H cur (ks.drop i) p ∧ H' = H) ⟨_, v, rfl, hP, rfl⟩ (fun i σ' H' _ h => by
      obtain ⟨_, _, _, _, rfl⟩ := h
      exact SqT.of hb) ?_ ?_
    · rintro i x σ' H' ei ⟨y2, cur, rfl, hc, rfl⟩
      rw [List.getElem?_map] at ei
      obtain ⟨k, ek, rfl⟩ := Option.map_eq_some_iff.mp ei
      have il := (List.getElem?_eq_some_iff.mp ek).1
      have ed : ks.drop i = k :: ks.drop (i + 1) := by
        rw [List.drop_eq_getElem_cons il]
        congr 1
        exact (List.getElem?_eq_some_iff.mp ek).2
      rw [ed] at hc
      obtain ⟨a, xs, y, rfl, ha, k0, hy, h4⟩ := hc
      exact ⟨.ref a, rfl, .int k, rfl, a, xs, k, y, rfl, rfl, SqT.of ha, atI_of k0 hy, _, _, rfl, h4, rfl⟩
    · rintro σ' H' ⟨y2, cur, rfl, hc, rfl⟩
      rw [List.length_map, List.drop_length] at hc
      have hc : cur = p := hc
      exact ⟨cur, rfl, hc ▸ q⟩
set_option maxHeartbeats 8000000 in
theorem ok_l_spots {f : Addr} {fd : FuncData} (F : Fun K "_law_spots" "_law_spots" s_l_spots f fd) (M : Free mg) (D_l_part : Df P w K mg base 1 "_law_part" ["_law_thing", "_law_spot"] spPart) : FnOk P w K mg base CX0 2 f fd ["_law_thing"] spSpots := by
  obtain ⟨f_l_part, fd_l_part, G_l_part, g_l_part, k_l_part, b_l_part⟩ := D_l_part
  refine F.ok sc_l_spots (fun vs H Q E h => ?_) (fun cdv A outer s H vs Q E hr h => ?_)
  · obtain ⟨v, W, d, S, rfl, _⟩ := h
    rfl
  · obtain ⟨v, W, d, S, rfl, hv, hW, d1000, hS, q⟩ := h
    refine ⟨_, (pss_cons (ps_set (i := 1) sc_l_spots.nd rfl (.inr rfl) (pe_lst (pa_cons (pe_tup pa_nil) pa_nil)))
      (pss_cons (ps_set (i := 2) sc_l_spots.nd rfl (.inr rfl) pe_int)
      (pss_cons (ps_while PassesOwn.never (pt_cmpR op_lt (pv 2) (pe_callB call_len_seq (by rfl) M.len PySem.boot_len (pa_cons (pv 1) pa_nil)) (nomark _))
        (pss_cons (ps_set (i := 3) sc_l_spots.nd rfl (.inl rfl) (pe_call G_l_part (hr.mono (by decide)) (by rfl) g_l_part k_l_part b_l_part .nil pass0 (pa_cons (pv 0) (pa_cons (pe_ix ix_list (pv 1) (pv 2) (fun _ _ => rfl)) pa_nil))))
        (Evl.pss_cut (ps_if (pt_val (pe_callB call_isi (by rfl) M.isinstance (by decide +kernel) (pa_cons (pv 3) (pa_cons (pe_bltn (v := .ty "tuple") (by rfl) M.tuple (by decide +kernel) rfl) pa_nil))))
          (pss_one (ps_expr (pe_bm PySem.F.plainAttrs_list PySem.F.slot_list_extend PySem.F.type_list_extend mt_extend (pv 1) (pa_cons (pe_lc (own := [("_law_k", 4)]) (g := (gName 4)) (tt := tYes) rfl sc_l_spots.nd (pi_range1 (by rfl) M.range (pa_cons (pe_callB call_len_seq (by rfl) M.len PySem.boot_len (pa_cons (pv 3) pa_nil)) pa_nil)) (blkOk_by (N := N_l_spots) (sc := defScope s_l_spots) (own := [("_law_k", 4)]) (by decide +kernel)) (fun _ _ _ _ _ => (pg_name (i := 4) sc_l_spots.nd rfl (.inl rfl))) (fun _ _ _ _ _ => pts_nil) (fun _ _ _ _ _ => (pe_op op_catU (pe_ix (r := rIxL K) ix_list (pv 1) (pv 2) (fun _ _ => rfl)) (pe_tup (pa_cons (pv 4) pa_nil))))) pa_nil))))
          pss_nil)
        (pss_one (ps_set (i := 2) sc_l_spots.nd rfl (.inr rfl) (pe_op op_add (pv 2) pe_int))))))
      (pss_one (ps_ret (pv 1)))))), ?_⟩
    refine ⟨Nat.zero_le _, fun e0 ne0 => ⟨by show 1 ≤ sizeLine; decide, fun L nL => ?_⟩⟩
    have s1 := (same_new (o := .tup []) ne0).trans (same_new (o := .lst [.ref e0]) nL)
    have he0 := same_new (o := .lst [.ref e0]) nL _ _ (upd_same (H := H) (a := e0) (o := .tup []))
    have hL := upd_same (H := upd H e0 (.tup [])) (a := L) (o := .lst [.ref e0])
    have nL0 := (same_new (o := .tup []) ne0).free nL
    generalize upd (upd H e0 (.tup [])) L (.lst [.ref e0]) = H1 at s1 he0 hL
    have kind : ∀ {H' : Hp} {v : V} {e s : Nat}, TuN W e H' v s → Kn H' v := fun h => (h.tut hW).pap.kn
    refine ⟨fun m σ' H' => ∃ (z : Nat) (y3 y4 : Option V) (ls : List V) (ss : List Nat), σ' = [some v, some (.ref L), some (.int z), y3, y4] ∧ H' L = some (.lst ls) ∧ (∀ l ∈ ls, SpotW W d S v H' l) ∧ 0 < ls.length ∧ z ≤ ls.length ∧ Paired (SpotR W d v H') (ls.drop z) ss ∧ z + ss.sum ≤ S ∧ Same H H' ∧ m = S - z, ⟨S, 0, none, none, [.ref e0], [S], rfl, hL, fun l hl => ?_, by simp, Nat.zero_le _, .cons ?_ .nil, by simp, s1, by omega⟩, ?_⟩
    · rw [List.mem_singleton.mp hl]
      exact ⟨S, Nat.le_refl _, e0, [], v, d, rfl, he0, rfl, hv.tk (Same.tk s1), by simp⟩
    · exact ⟨e0, [], v, d, rfl, he0, rfl, hv.tk (Same.tk s1), by simp⟩
    clear hL he0 s1 ne0 nL
    rintro m σ' H2 ⟨z, y3, y4, ls, ss, rfl, hL, hw, lpos, zl, hp, hz, s2, rfl⟩
    have lz : ls.length ≤ S := by
      have := spots_len hp
      rw [List.length_drop] at this
      omega
    refine ⟨.int z, rfl, .ref L, rfl, L, _, rfl, .inl (SqL.of hL), _, _, rfl, rfl, _, rfl, ?_⟩
    cases hzl : decide ((z : Int) < (ls.length : Int)) with
    | false => exact ⟨.ref L, rfl, q L ls H2 hL hw lpos lz s2 nL0⟩
    | true =>
    have hzl : z < ls.length := by have := of_decide_eq_true hzl; omega
    have ed : ls.drop z = ls[z] :: ls.drop (z + 1) := List.drop_eq_getElem_cons hzl
    rw [ed] at hp
    match ss, hp, hz with
    | s :: ss, .cons hl hp, hz =>
    rw [List.sum_cons] at hz
    obtain ⟨b, ks, p, e, el, hb, hP, hpt, hd⟩ := hl
    have al : atI ls z = some (.ref b) := by
      rw [← el]
      exact atI_nat (List.getElem?_eq_getElem hzl)
    refine ⟨_, fun _ _ h => h, ?_⟩
    refine ⟨v, rfl, .ref L, rfl, .int z, rfl, L, ls, (z : Int), .ref b, rfl, rfl, SqL.of hL, al, v, b, ks, p, rfl, hb, hP, ?_⟩
    have sp := hpt.pos
    refine ⟨fun σ' H' => ∃ (y4 : Option V) (ls' : List V) (ss' : List Nat), σ' = [some v, some (.ref L), some (.int z), some p, y4] ∧ H' L = some (.lst ls') ∧ (∀ l ∈ ls', SpotW W d S v H' l) ∧ ls.length ≤ ls'.length ∧ Paired (SpotR W d v H') (ls'.drop (z + 1)) ss' ∧ z + 1 + ss'.sum ≤ S ∧ Same H H', ?_, ?_⟩
    · obtain ⟨t1, i1, j1⟩ := kn_tup (K := K) (kind hpt)
      refine ⟨p, rfl, p, _, t1, _, _, rfl, .ty "tuple", i1, j1, _, rfl, ?_⟩
      cases hi : isT H2 p with
      | false => exact ⟨_, ls, ss, rfl, hL, hw, Nat.le_refl _, hp, by omega, s2⟩
      | true =>
      obtain ⟨va, rs, rfl, hva⟩ := isT_at hi
      cases e with
      | zero =>
        rcases hpt.1 with ⟨_, h⟩ | ⟨_, h, _⟩ <;> cases h
      | succ e =>
      rcases hpt with h | ⟨va', rs', cs, e1, hva', lr, hcs, hsum⟩
      · rcases h.1 with ⟨_, h⟩ | ⟨_, h, _⟩ <;> cases h
      cases e1
      rw [hva] at hva'
      cases hva'
      have lcs := Paired.length hcs
      refine ⟨.ref L, rfl, .inl ⟨rfl, _, SqL.of hL⟩, .ref va, rfl, va, rs, rfl, .inr (SqT.of hva), rs.length, rfl, by omega, by omega, fun Z nZ => ?_⟩
      rw [Int.toNat_natCast]
      refine lc_range (lo := 0) (n := rs.length) (fun i H' => ∃ zs : List V, H' Z = some (.lst zs) ∧ zs.length = i ∧ (∀ (j : Nat) (u : V), zs[j]? = some u → ∃ c, u = .ref c ∧ H' c = some (.tup ((ks ++ [(j : Int)]).map V.int))) ∧ Same H2 H') ⟨[], upd_same, rfl, fun j u h => by simp at h, same_new nZ⟩ ?_ ?_
      · rintro i H3 hi3 ⟨zs, hZ, lzs, hzs, s3⟩
        refine ⟨rfl, .ref L, rfl, .int z, rfl, L, ls, (z : Int), .ref b, rfl, rfl, SqL.of (s3 _ _ hL), al, .int (0 + (i : Nat)), rfl, by show 1 ≤ sizeLine; decide, fun t nt => ?_⟩
        have st := same_new (o := .tup [.int (0 + (i : Nat))]) nt
        refine ⟨b, t, ks.map V.int, [.int (0 + (i : Nat))], rfl, rfl, st _ _ (s3 _ _ hb), upd_same, by rw [List.length_map, List.length_singleton]; omega, fun c H4 s4 hc => ?_⟩
        have s34 := st.trans s4
        have hZ4 := s34 _ _ hZ
        refine ⟨_, hZ4, Nat.lt_of_le_of_lt (show zs.length ≤ 1000 by omega) (by decide), zs ++ [.ref c], upd_same, by rw [List.length_append, lzs]; rfl, fun j u hu => ?_, Same.mut (s3.trans s34) nZ⟩
        have tk := tk_lst (ys := zs ++ [.ref c]) hZ4
        by_cases hj : j < zs.length
        · rw [List.getElem?_append_left hj] at hu
          obtain ⟨c', e1, e2⟩ := hzs j u hu
          exact ⟨c', e1, tk _ _ ((Same.tk s34) _ _ e2)⟩
        · have := (List.getElem?_eq_some_iff.mp hu).1
          rw [List.length_append, List.length_singleton] at this
          have ej : j = zs.length := by omega
          subst ej
          rw [List.getElem?_append_right (Nat.le_refl _), Nat.sub_self] at hu
          cases hu
          refine ⟨c, rfl, tk _ _ ?_⟩
          rw [hc, List.map_append, lzs]
          show some (HO.tup (ks.map V.int ++ [V.int (0 + (i : Nat))])) = some (HO.tup (ks.map V.int ++ [V.int (i : Nat)]))
          rw [Int.zero_add]
      rintro H3 ⟨zs, hZ, lzs, hzs, s3⟩
      have tk3 := Same.tk s3
      have hL3 := s3 _ _ hL
      refine ⟨L, Z, ls, zs, rfl, rfl, hL3, hZ, Nat.le_trans (show ls.length + zs.length ≤ 200000 by omega) (by decide), ?_⟩
      have tk := tk3.trans (tk_lst (ys := ls ++ zs) hL3)
      have newp : Paired (SpotR W d v (upd H3 L (.lst (ls ++ zs)))) zs cs := paired_get (by omega) fun i u s' e1 e2 => by
        obtain ⟨c, rfl, hc⟩ := hzs i u e1
        have il := (List.getElem?_eq_some_iff.mp e1).1
        obtain ⟨y, ey, hy⟩ := Paired.at hcs (List.getElem?_eq_getElem (show i < rs.length by omega))
        rw [e2] at ey
        cases ey
        refine ⟨c, ks ++ [(i : Int)], _, e, rfl, (tk_lst (ys := ls ++ zs) hL3) _ _ hc, (Pth.snoc hva (by omega) (by rw [Int.toNat_natCast]; exact List.getElem?_eq_getElem (show i < rs.length by omega)) hP).tk tk, hy.tk tk, by rw [List.length_append, List.length_singleton]; omega⟩
      refine ⟨_, ls ++ zs, ss ++ cs, rfl, upd_same, fun l hl => ?_, by rw [List.length_append]; omega, ?_, by rw [List.sum_append]; omega, Same.mut (s2.trans s3) nL0⟩
      · rcases List.mem_append.mp hl with h | h
        · obtain ⟨s', b', h'⟩ := hw l h
          exact ⟨s', b', h'.tk tk⟩
        · obtain ⟨i, hi⟩ := List.getElem?_of_mem h
          obtain ⟨s', e', h'⟩ := Paired.at newp hi
          have := le_sumN e'
          exact ⟨s', by omega, h'⟩
      · rw [List.drop_append_of_le_length (by omega)]
        exact Paired.app2F (spots_tk tk hp) newp
    · rintro σ' H3 ⟨y4', ls', ss', rfl, hL3, hw3, ll, hp3, hz3, s3⟩
      exact ⟨.int z, rfl, _, _, rfl, rfl, S - (z + 1), by omega, z + 1, _, _, ls', ss', rfl, hL3, hw3, by omega, by omega, hp3, hz3, s3, rfl⟩
end
/-! ### no paper shows more than a mend weighs (mathematics) -/
def brkC (c : Int → Bool) (t : Tie) : Bool := (c t.one == c t.other) == t.foe
theorem join_brk {t : Tie} {a b : Int} (c : Int → Bool) (h : joinB t a b = true) : brkC c t = ((c a ^^ c b) ^^ t.foe) := by
  unfold joinB at h
  unfold brkC
  rw [Bool.or_eq_true, Bool.and_eq_true, Bool.and_eq_true, decide_eq_true_iff, decide_eq_true_iff, decide_eq_true_iff, decide_eq_true_iff] at h
  rcases h with ⟨h1, h2⟩ | ⟨h1, h2⟩ <;> rw [h1, h2] <;> cases c a <;> cases c b <;> cases t.foe <;> rfl
/-- a ring of which no tie is broken has an even number of foes -/
theorem ring_even {ts : List Tie} {ps es : List Int} (c : Int → Bool) (h : ringI ts ps es = true) (l : ps.length = es.length) (no : ∀ e ∈ es, brkC c (tieAt ts e) = false) : foesI ts es % 2 = 0 := by
  unfold ringI at h
  rw [List.all_eq_true] at h
  have key : ∀ i, i ≤ es.length → decide (foesI ts (es.take i) % 2 = 1) = (c (ps.getD 0 0) ^^ c (ps.getD (i % ps.length) 0)) := by
    intro i
    induction i with
    | zero =>
      intro _
      rw [Nat.zero_mod, Bool.xor_self]
      rfl
    | succ i ih =>
      intro hi
      have ihh := ih (by omega)
      rw [show i % ps.length = i from Nat.mod_eq_of_lt (by omega)] at ihh
      have hj := h i (List.mem_range.mpr (by omega))
      have ei : es[i]? = some (es.getD i 0) := by
        rw [List.getD_eq_getElem?_getD, List.getElem?_eq_getElem (by omega)]
        rfl
      have nb := no _ (List.mem_of_getElem? ei)
      rw [join_brk c hj] at nb
      have ef := foesI_take ts es ei
      have ec : foesI ts (es.take (i + 1)) = foesI ts (es.take i) + (if (tieAt ts (es.getD i 0)).foe = true then 1 else 0) := by
        unfold foesI
        rw [ef, List.length_append]
        congr 1
        cases (tieAt ts (es.getD i 0)).foe <;> rfl
      rw [ec]
      generalize (tieAt ts (es.getD i 0)).foe = f at nb
      generalize foesI ts (es.take i) = m at ihh
      generalize c (ps.getD 0 0) = x at ihh ⊢
      generalize c (ps.getD i 0) = y at ihh nb
      generalize c (ps.getD ((i + 1) % ps.length) 0) = z at nb ⊢
      have em : m % 2 = 0 ∨ m % 2 = 1 := by omega
      rcases em with em | em
      · rw [em] at ihh
        cases f
        · rw [show (m + if false = true then 1 else 0) % 2 = 0 by show (m + 0) % 2 = 0; omega]
          revert ihh nb
          cases x <;> cases y <;> cases z <;> decide
        · rw [show (m + if true = true then 1 else 0) % 2 = 1 by show (m + 1) % 2 = 1; omega]
          revert ihh nb
          cases x <;> cases y <;> cases z <;> decide
      · rw [em] at ihh
        cases f
        · rw [show (m + if false = true then 1 else 0) % 2 = 1 by show (m + 0) % 2 = 1; omega]
          revert ihh nb
          cases x <;> cases y <;> cases z <;> decide
        · rw [show (m + if true = true then 1 else 0) % 2 = 0 by show (m + 1) % 2 = 0; omega]
          revert ihh nb
          cases x <;> cases y <;> cases z <;> decide
  have k := key es.length (Nat.le_refl _)
  rw [List.take_length, ← l, Nat.mod_self, Bool.xor_self] at k
  have := of_decide_eq_false k
  omega
theorem toI_ints (es : List Int) : (es.map V.int).map toI = es := by
  rw [List.map_map]
  exact List.map_id _
theorem odd_broken {H : Hp} {n : Int} {ts : List Tie} {v : V} (h : oddB H n ts v = true) (c : Int → Bool) : ∃ e ∈ tiesOf H v, brkC c (tieAt ts e) = true := by
  have h0 := h
  unfold oddB at h
  rw [Bool.and_eq_true] at h
  obtain ⟨a, pa, ta, pn, en, rfl, ea, epa, eta, hpn, hen, npn, nen, l2, le, hr⟩ := ring_is h.1
  obtain ⟨_, _, _, en', _, _, _, et, _⟩ := odd_ties h0
  have h2 := h.2
  rw [parts_of' ea] at h2
  have h3 : (match parts H (.ref ta) with | some es => decide (foesI ts (es.map toI) % 2 = 1) | none => false) = true := h2
  rw [parts_of' eta] at h3
  have h4 : decide (foesI ts ((en.map V.int).map toI) % 2 = 1) = true := h3
  rw [toI_ints] at h4
  have h4 := of_decide_eq_true h4
  have e2 : tiesOf H (.ref a) = en := by
    unfold tiesOf
    rw [parts_of' ea]
    show ((parts H (.ref ta)).getD []).map toI = en
    rw [parts_of' eta]
    exact toI_ints en
  rw [e2]
  refine Classical.byContradiction fun z => ?_
  have := ring_even c hr le fun e he => by
    cases hb : brkC c (tieAt ts e) with
    | false => rfl
    | true => exact (z ⟨e, he, hb⟩).elim
  omega
def WF (F : Int → Bool) (g : Int → Int) (es : List Int) : Int := ((es.filter F).map g).sum
theorem sum_mono {α : Type} {f g : α → Int} : ∀ {xs : List α}, (∀ x ∈ xs, f x ≤ g x) → (xs.map f).sum ≤ (xs.map g).sum
  | [], _ => Int.le_refl _
  | x :: xs, h => by
    have h1 := h x List.mem_cons_self
    have h2 := sum_mono (xs := xs) fun y hy => h y (List.mem_cons_of_mem _ hy)
    rw [List.map_cons, List.map_cons, List.sum_cons, List.sum_cons]
    omega
theorem sum_nn {xs : List Int} (h : ∀ x ∈ xs, (0 : Int) ≤ x) : 0 ≤ xs.sum := by
  induction xs with
  | nil => exact Int.le_refl _
  | cons x xs ih =>
    have h1 := h x List.mem_cons_self
    have h2 := ih fun y hy => h y (List.mem_cons_of_mem _ hy)
    rw [List.sum_cons]
    omega
theorem sum_map_add {α : Type} (f g : α → Int) : ∀ xs : List α, (xs.map fun x => f x + g x).sum = (xs.map f).sum + (xs.map g).sum
  | [] => rfl
  | x :: xs => by
    rw [List.map_cons, List.map_cons, List.map_cons, List.sum_cons, List.sum_cons, List.sum_cons, sum_map_add f g xs]
    omega
theorem sum_has {α : Type} {f : α → Int} {k : Int} : ∀ {xs : List α}, (∀ x ∈ xs, 0 ≤ f x) → (∃ x ∈ xs, k ≤ f x) → k ≤ (xs.map f).sum
  | [], _, ⟨x, hx, _⟩ => by cases hx
  | x :: xs, h, ⟨y, hy, hk⟩ => by
    rw [List.map_cons, List.sum_cons]
    have h1 := h x List.mem_cons_self
    have h2 : ∀ z ∈ xs, 0 ≤ f z := fun z hz => h z (List.mem_cons_of_mem _ hz)
    rcases List.mem_cons.mp hy with rfl | hy
    · have := sum_nn (xs := xs.map f) fun z hz => by
        obtain ⟨w, hw, rfl⟩ := List.mem_map.mp hz
        exact h2 w hw
      omega
    · have := sum_has h2 ⟨y, hy, hk⟩
      omega
theorem tot_le {B : List Int} : ∀ {xs : List (List Int × Int)}, (∀ x ∈ xs, 0 ≤ x.2) → (∀ x ∈ xs, ∃ e ∈ B, e ∈ x.1) → totR xs ≤ (B.map (loadR xs)).sum
  | [], _, _ => by
    have z : ∀ B : List Int, (B.map (loadR [])).sum = 0 := fun B => by
      induction B with
      | nil => rfl
      | cons b B ih =>
        rw [List.map_cons, List.sum_cons, ih]
        rfl
    rw [z]
    exact Int.le_refl _
  | x :: xs, h1, h2 => by
    have ih := tot_le (B := B) (xs := xs) (fun y hy => h1 y (List.mem_cons_of_mem _ hy)) (fun y hy => h2 y (List.mem_cons_of_mem _ hy))
    have e : B.map (loadR (x :: xs)) = B.map fun e => (if e ∈ x.1 then x.2 else 0) + loadR xs e := by
      refine List.map_congr_left fun e _ => ?_
      unfold loadR
      rw [List.map_cons, List.sum_cons]
    rw [e, sum_map_add]
    have x0 := h1 x List.mem_cons_self
    obtain ⟨b, hb, hx⟩ := h2 x List.mem_cons_self
    have := sum_has (f := fun e => if e ∈ x.1 then x.2 else 0) (k := x.2) (xs := B) (fun y _ => by show 0 ≤ (if y ∈ x.1 then x.2 else 0); split <;> omega) ⟨b, hb, by show x.2 ≤ (if b ∈ x.1 then x.2 else 0); rw [if_pos hx]; exact Int.le_refl _⟩
    have et : totR (x :: xs) = x.2 + totR xs := by
      unfold totR
      rw [List.map_cons, List.sum_cons]
    rw [et]
    omega
theorem foldR_all {H : Hp} {n : Int} {ts : List Tie} : ∀ {rows : List V} {acc xs : List (List Int × Int)}, rows.foldl (stepR H n ts) (some acc) = some xs → (∀ x ∈ acc, ∃ r, rowR H n ts r = some x) → ∀ x ∈ xs, ∃ r, rowR H n ts r = some x
  | [], acc, xs, h, ha => by
    cases h
    exact ha
  | r :: rows, acc, xs, h, ha => by
    rw [List.foldl_cons] at h
    cases hr : rowR H n ts r with
    | none =>
      have e : stepR H n ts (some acc) r = none := by
        show (match rowR H n ts r with | none => none | some x => some (acc ++ [x])) = none
        rw [hr]
      rw [e, fold_none (fun a => rfl)] at h
      cases h
    | some x =>
      have e : stepR H n ts (some acc) r = some (acc ++ [x]) := by
        show (match rowR H n ts r with | none => none | some x => some (acc ++ [x])) = _
        rw [hr]
      rw [e] at h
      refine foldR_all h fun y hy => ?_
      rcases List.mem_append.mp hy with z | z
      · exact ha y z
      · rw [List.mem_singleton.mp z]
        exact ⟨r, hr⟩
theorem rowR_has {H : Hp} {n : Int} {ts : List Tie} {r : V} {x : List Int × Int} (h : rowR H n ts r = some x) : 1 ≤ x.2 ∧ (∀ e ∈ x.1, 0 ≤ e ∧ e < (ts.length : Int)) ∧ ∀ c, ∃ e ∈ x.1, brkC c (tieAt ts e) = true := by
  unfold rowR at h
  cases ep : parts H r with
  | none => rw [ep] at h; cases h
  | some xs =>
    rw [ep] at h
    match xs, h with
    | [], h => cases h
    | [_], h => cases h
    | [x', .int t], h =>
      have h : (if decide (1 ≤ t) && oddB H n ts x' then some (tiesOf H x', t) else none) = some x := h
      split at h
      · rename_i hc
        rw [Bool.and_eq_true] at hc
        cases h
        obtain ⟨_, _, _, en, _, _, _, et, hen, _⟩ := odd_ties hc.2
        exact ⟨of_decide_eq_true hc.1, fun e he => by rw [et] at he; exact hen e he, odd_broken hc.2⟩
      · cases h
    | [_, .non], h => cases h
    | [_, .bl _], h => cases h
    | [_, .str _], h => cases h
    | [_, .ref _], h => cases h
    | _ :: b :: _ :: _, h => cases b <;> cases h
def GoodC (c : Int → Bool) (F : Int → Bool) (m : Nat) (ts : List Tie) : Prop := ∀ e : Int, 0 ≤ e → e < (ts.length : Int) → brkC c (tieAt ts e) = (decide (e < (m : Int)) && F e)
theorem GoodC.snoc {c F : Int → Bool} {m : Nat} {ts : List Tie} {t : Tie} (h : GoodC c F m ts) (l : m ≤ ts.length) (ht : brkC c t = false) : GoodC c F m (ts ++ [t]) := fun e h0 h1 => by
  by_cases he : e < (ts.length : Int)
  · have e1 : tieAt (ts ++ [t]) e = tieAt ts e := by
      unfold tieAt
      rw [List.getD_eq_getElem?_getD, List.getD_eq_getElem?_getD, List.getElem?_append_left (by omega)]
    rw [e1]
    exact h e h0 he
  · rw [List.length_append] at h1
    have h1 : e < ((ts.length + 1 : Nat) : Int) := h1
    have e1 : tieAt (ts ++ [t]) e = t := by
      unfold tieAt
      rw [List.getD_eq_getElem?_getD, List.getElem?_append_right (by omega), show e.toNat - ts.length = 0 by omega]
      rfl
    rw [e1, ht, decide_eq_false (by omega), Bool.false_and]
theorem rings_le {H : Hp} {n : Int} {ts : List Tie} {m : Nat} {g : Int → Int} {given : List Int} {rows : List V} {c F : Int → Bool} {k : Int} (gd : GoodC c F m ts) (gin : ∀ e ∈ given, 0 ≤ e ∧ e < (m : Int)) (gp : ∀ e ∈ given, 1 ≤ g e) (h : ringsS H n ts (limW g m) given rows = some k) : 0 ≤ k ∧ k ≤ WF F g given := by
  unfold ringsS at h
  cases hf : rows.foldl (stepR H n ts) (some []) with
  | none => rw [hf] at h; cases h
  | some xs =>
    rw [hf] at h
    have h : (if givR (limW g m).length given xs && fitR (limW g m) xs then some ((totR xs + 1) / 2) else none) = some k := h
    split at h
    · rename_i hc
      cases h
      rw [Bool.and_eq_true] at hc
      have lm : (limW g m).length = m := by
        unfold limW
        rw [List.length_map, rng_length]
      have hv := hc.1
      have hl := hc.2
      unfold givR at hv
      unfold fitR at hl
      rw [lm] at hv hl
      rw [List.all_eq_true] at hv hl
      have all := foldR_all hf (fun x hx => by cases hx)
      have x1 : ∀ x ∈ xs, 1 ≤ x.2 := fun x hx => by
        obtain ⟨r, hr⟩ := all x hx
        exact (rowR_has hr).1
      have hasB : ∀ x ∈ xs, ∃ e ∈ given.filter F, e ∈ x.1 := fun x hx => by
        obtain ⟨r, hr⟩ := all x hx
        obtain ⟨_, hen, hb⟩ := rowR_has hr
        obtain ⟨e, he, hbe⟩ := hb c
        have er := hen e he
        rw [gd e er.1 er.2, Bool.and_eq_true] at hbe
        have elt := of_decide_eq_true hbe.1
        have hg := List.all_eq_true.mp (hv x hx) e he
        rw [Bool.or_eq_true, decide_eq_true_iff, decide_eq_true_iff] at hg
        have : e ∈ given := hg.resolve_right (by omega)
        exact ⟨e, List.mem_filter.mpr ⟨this, hbe.2⟩, he⟩
      have t0 := tot_le (B := given.filter F) (xs := xs) (fun x hx => by have := x1 x hx; omega) hasB
      have t1 : ((given.filter F).map (loadR xs)).sum ≤ ((given.filter F).map fun e => 2 * g e).sum := sum_mono fun e he => by
        have eg := (List.mem_filter.mp he).1
        have er := gin e eg
        by_cases hx : ∃ x ∈ xs, e ∈ x.1
        · obtain ⟨x, hx, hex⟩ := hx
          have := List.all_eq_true.mp (hl x hx) e hex
          rw [Bool.or_eq_true, decide_eq_true_iff, decide_eq_true_iff, limW_at er.1 er.2] at this
          rcases this with z | z
          · omega
          · exact z
        · have e0 : loadR xs e = 0 := loadR_out fun z => by
            unfold tiesR at z
            obtain ⟨x, hxx, hex⟩ := List.mem_flatMap.mp z
            exact hx ⟨x, hxx, hex⟩
          have := gp e eg
          rw [e0]
          omega
      have t2 : ((given.filter F).map fun e => 2 * g e).sum = 2 * WF F g given := by
        unfold WF
        generalize given.filter F = B
        induction B with
        | nil => rfl
        | cons b B ih =>
          rw [List.map_cons, List.map_cons, List.sum_cons, List.sum_cons, ih]
          omega
      have t3 : 0 ≤ totR xs := by
        unfold totR
        refine sum_nn fun z hz => ?_
        obtain ⟨x, hx, rfl⟩ := List.mem_map.mp hz
        have := x1 x hx
        omega
      omega
    · cases h
theorem WF_app (F : Int → Bool) (g : Int → Int) (xs ys : List Int) : WF F g (xs ++ ys) = WF F g xs + WF F g ys := by
  unfold WF
  rw [List.filter_append, List.map_append, List.sum_append]
theorem WF_sub {F : Int → Bool} {g : Int → Int} : ∀ {xs ys : List Int}, xs.Sublist ys → (∀ e ∈ ys, 0 ≤ g e) → WF F g xs ≤ WF F g ys := by
  intro xs ys h gp
  induction h with
  | slnil => exact Int.le_refl _
  | @cons l1 l2 a s ih =>
    have := ih fun e he => gp e (List.mem_cons_of_mem _ he)
    have ga := gp a List.mem_cons_self
    unfold WF at this ⊢
    rw [List.filter_cons]
    split
    · rw [List.map_cons, List.sum_cons]
      omega
    · exact this
  | @cons_cons l1 l2 a s ih =>
    have := ih fun e he => gp e (List.mem_cons_of_mem _ he)
    unfold WF at this ⊢
    rw [List.filter_cons, List.filter_cons]
    split
    · rw [List.map_cons, List.map_cons, List.sum_cons, List.sum_cons]
      omega
    · exact this
theorem WF_perm {F : Int → Bool} {g : Int → Int} {xs ys : List Int} (h : xs.Perm ys) : WF F g xs = WF F g ys := by
  unfold WF
  have := (h.filter F).map g
  have sp : ∀ {xs ys : List Int}, xs.Perm ys → xs.sum = ys.sum := fun h => by
    induction h with
    | nil => rfl
    | cons x _ ih => rw [List.sum_cons, List.sum_cons, ih]
    | swap x y l => simp only [List.sum_cons]; omega
    | trans _ _ ih1 ih2 => rw [ih1, ih2]
  exact sp this
theorem WF_subset {F : Int → Bool} {g : Int → Int} : ∀ {xs ys : List Int}, xs.Nodup → (∀ x ∈ xs, x ∈ ys) → (∀ e ∈ ys, 0 ≤ g e) → WF F g xs ≤ WF F g ys
  | [], ys, _, _, gp => by
    show 0 ≤ _
    unfold WF
    refine sum_nn fun z hz => ?_
    obtain ⟨e, he, rfl⟩ := List.mem_map.mp hz
    exact gp e (List.mem_filter.mp he).1
  | x :: xs, ys, nd, s, gp => by
    have nd := List.nodup_cons.mp nd
    have hp := List.perm_cons_erase (s x List.mem_cons_self)
    have ih := WF_subset (F := F) (g := g) (xs := xs) (ys := ys.erase x) nd.2 (fun y hy => by
      have h1 := hp.mem_iff.mp (s y (List.mem_cons_of_mem _ hy))
      rcases List.mem_cons.mp h1 with z | z
      · exact (nd.1 (z ▸ hy)).elim
      · exact z) fun e he => gp e (List.mem_of_mem_erase he)
    rw [WF_perm hp]
    have e1 := WF_app F g [x] xs
    have e2 := WF_app F g [x] (ys.erase x)
    have e1 : WF F g (x :: xs) = WF F g [x] + WF F g xs := e1
    have e2 : WF F g (x :: ys.erase x) = WF F g [x] + WF F g (ys.erase x) := e2
    omega
theorem WF_nn {F : Int → Bool} {g : Int → Int} {xs : List Int} (gp : ∀ e ∈ xs, 0 ≤ g e) : 0 ≤ WF F g xs := by
  unfold WF
  refine sum_nn fun z hz => ?_
  obtain ⟨e, he, rfl⟩ := List.mem_map.mp hz
  exact gp e (List.mem_filter.mp he).1
theorem stepT82 (H : Hp) (m : Nat) (given : List Int) (S : List Int → V → Option Int) (tk : List Int) (tot : Int) (r : V) : stepT H m given S (some (tk, tot)) r = (match rowT H m r with
    | none => none
    | some (es, p) => if (es.all fun e => decide (e ∈ given) && !decide (e ∈ tk)) = true then (match S es p with
      | none => none
      | some k => some (tk ++ es, tot + k)) else none) := rfl
theorem split_le {H : Hp} {m : Nat} {given : List Int} {S : List Int → V → Option Int} {F : Int → Bool} {g : Int → Int} (hS : ∀ es p k, es.Nodup → (∀ e ∈ es, e ∈ given) → S es p = some k → 0 ≤ k ∧ k ≤ WF F g es) : ∀ {rows : List V} {tk tk' : List Int} {tot tot' : Int}, tk.Nodup → (∀ e ∈ tk, e ∈ given) → (0 ≤ tot ∧ tot ≤ WF F g tk) →
    rows.foldl (stepT H m given S) (some (tk, tot)) = some (tk', tot') → tk'.Nodup ∧ (∀ e ∈ tk', e ∈ given) ∧ 0 ≤ tot' ∧ tot' ≤ WF F g tk'
  | [], tk, tk', tot, tot', nd, sub, ht, h => by
    cases h
    exact ⟨nd, sub, ht⟩
  | r :: rows, tk, tk', tot, tot', nd, sub, ht, h => by
    rw [List.foldl_cons] at h
    have hn : ∀ a, stepT H m given S none a = none := fun a => rfl
    cases hr : rowT H m r with
    | none =>
      have e : stepT H m given S (some (tk, tot)) r = none := by
        rw [stepT82, hr]
      rw [e, fold_none hn] at h
      cases h
    | some x =>
      obtain ⟨es, p⟩ := x
      by_cases ha : (es.all fun e => decide (e ∈ given) && !decide (e ∈ tk)) = true
      · cases hs : S es p with
        | none =>
          have e : stepT H m given S (some (tk, tot)) r = none := by
            rw [stepT82, hr]
            show (if (es.all fun e => decide (e ∈ given) && !decide (e ∈ tk)) = true then (match S es p with | none => none | some k => some (tk ++ es, tot + k)) else none) = none
            rw [if_pos ha, hs]
          rw [e, fold_none hn] at h
          cases h
        | some k =>
          have e : stepT H m given S (some (tk, tot)) r = some (tk ++ es, tot + k) := by
            rw [stepT82, hr]
            show (if (es.all fun e => decide (e ∈ given) && !decide (e ∈ tk)) = true then (match S es p with | none => none | some k => some (tk ++ es, tot + k)) else none) = _
            rw [if_pos ha, hs]
          rw [e] at h
          rw [List.all_eq_true] at ha
          have hin : ∀ e ∈ es, e ∈ given ∧ e ∉ tk := fun e he => by
            have := ha e he
            rw [Bool.and_eq_true, decide_eq_true_iff, Bool.not_eq_true', decide_eq_false_iff_not] at this
            exact this
          have nde : es.Nodup := by
            unfold rowT at hr
            cases hp : parts H r with
            | none => rw [hp] at hr; cases hr
            | some ys =>
              rw [hp] at hr
              match ys, hr with
              | [], hr => cases hr
              | [_], hr => cases hr
              | [t, q], hr =>
                have hr : (if riseB H m t then some (((parts H t).getD []).map toI, q) else none) = some (es, p) := hr
                split at hr
                · rename_i hb
                  obtain ⟨ta, es', _, _, _, pw, ee⟩ := rise_is hb
                  rw [ee] at hr
                  cases hr
                  exact pw.imp fun {a b} h => by omega
                · cases hr
              | _ :: _ :: _ :: _, hr => cases hr
          have hk := hS es p k nde (fun e he => (hin e he).1) hs
          refine split_le hS (List.nodup_append.mpr ⟨nd, nde, fun a ha b hb z => (hin b hb).2 (z ▸ ha)⟩) (fun e he => ?_) ?_ h
          · rcases List.mem_append.mp he with z | z
            · exact sub e z
            · exact (hin e z).1
          · rw [WF_app]
            omega
      · have e : stepT H m given S (some (tk, tot)) r = none := by
          rw [stepT82, hr]
          show (if (es.all fun e => decide (e ∈ given) && !decide (e ∈ tk)) = true then (match S es p with | none => none | some k => some (tk ++ es, tot + k)) else none) = none
          rw [if_neg ha]
        rw [e, fold_none hn] at h
        cases h
/-- what is shown is no more than what any sides break, where the sure ties are kept -/
theorem shown_le {H : Hp} {n : Int} {m : Nat} {g : Int → Int} {c F : Int → Bool} : ∀ (d : Nat) {ts : List Tie} {given : List Int} {v : V} {k : Int}, m ≤ ts.length → given.Nodup → (∀ e ∈ given, 0 ≤ e ∧ e < (m : Int)) → (∀ e ∈ given, 1 ≤ g e) → shownS d H n ts (limW g m) given v = some k → 0 ≤ k ∧ (GoodC c F m ts → k ≤ WF F g given)
  | 0, ts, given, v, k, _, _, _, _, h => by cases h
  | d + 1, ts, given, v, k, lm, nd, gin, gp, h => by
    have ll : (limW g m).length = m := by
      unfold limW
      rw [List.length_map, rng_length]
    unfold shownS at h
    cases hp : parts H v with
    | none => rw [hp] at h; cases h
    | some xs =>
      rw [hp] at h
      match xs, h with
      | [], h => cases h
      | [_], h => cases h
      | [w, r], h =>
        cases hr : parts H r with
        | none =>
          have h : (match parts H r with | none => none | some rows => if w = .str "rings" then ringsS H n ts (limW g m) given rows else if w = .str "split" then splitS H (limW g m).length given (fun es p => shownS d H n ts (limW g m) es p) rows else none) = some k := h
          rw [hr] at h
          cases h
        | some rows =>
          have h : (match parts H r with | none => none | some rows => if w = .str "rings" then ringsS H n ts (limW g m) given rows else if w = .str "split" then splitS H (limW g m).length given (fun es p => shownS d H n ts (limW g m) es p) rows else none) = some k := h
          rw [hr] at h
          have h : (if w = .str "rings" then ringsS H n ts (limW g m) given rows else if w = .str "split" then splitS H (limW g m).length given (fun es p => shownS d H n ts (limW g m) es p) rows else none) = some k := h
          split at h
          · refine ⟨?_, fun gd => (rings_le gd gin gp h).2⟩
            unfold ringsS at h
            cases hf : rows.foldl (stepR H n ts) (some []) with
            | none => rw [hf] at h; cases h
            | some ys =>
              rw [hf] at h
              have h : (if givR (limW g m).length given ys && fitR (limW g m) ys then some ((totR ys + 1) / 2) else none) = some k := h
              split at h
              · cases h
                have t3 : 0 ≤ totR ys := by
                  unfold totR
                  refine sum_nn fun z hz => ?_
                  obtain ⟨x, hx, rfl⟩ := List.mem_map.mp hz
                  obtain ⟨r, hr⟩ := foldR_all hf (fun x hx => by cases hx) x hx
                  have := (rowR_has hr).1
                  omega
                omega
              · cases h
          · split at h
            · unfold splitS at h
              cases hf : rows.foldl (stepT H (limW g m).length given fun es p => shownS d H n ts (limW g m) es p) (some ([], 0)) with
              | none => rw [hf] at h; cases h
              | some x =>
                obtain ⟨tk, tot⟩ := x
                rw [hf] at h
                cases h
                have rcH : ∀ es p k, es.Nodup → (∀ e ∈ es, e ∈ given) → shownS d H n ts (limW g m) es p = some k → 0 ≤ k ∧ (GoodC c F m ts → k ≤ WF F g es) := fun es p k nde sub hk => shown_le d lm nde (fun e he => gin e (sub e he)) (fun e he => gp e (sub e he)) hk
                refine ⟨?_, fun gd => ?_⟩
                · -- from nought on: by the sum of all ties
                  by_cases gd : GoodC c F m ts
                  · exact (split_le (F := F) (g := g) (fun es p k n s hk => ⟨(rcH es p k n s hk).1, (rcH es p k n s hk).2 gd⟩) List.nodup_nil (fun e he => by cases he) ⟨Int.le_refl _, Int.le_refl _⟩ hf).2.2.1
                  · have nn : ∀ {rows : List V} {tk tk' : List Int} {tot tot' : Int}, tk.Nodup → (∀ e ∈ tk, e ∈ given) → 0 ≤ tot → rows.foldl (stepT H (limW g m).length given fun es p => shownS d H n ts (limW g m) es p) (some (tk, tot)) = some (tk', tot') → 0 ≤ tot' := by
                      intro rows
                      induction rows with
                      | nil =>
                        intro tk tk' tot tot' _ _ h0 h
                        cases h
                        exact h0
                      | cons r rows ih =>
                        intro tk tk' tot tot' ndt sub h0 h
                        rw [List.foldl_cons] at h
                        cases hst : stepT H (limW g m).length given (fun es p => shownS d H n ts (limW g m) es p) (some (tk, tot)) r with
                        | none =>
                          rw [hst, fold_none (fun a => rfl)] at h
                          cases h
                        | some y =>
                          obtain ⟨tk2, tot2⟩ := y
                          rw [hst] at h
                          have one : ([r].foldl (stepT H (limW g m).length given fun es p => shownS d H n ts (limW g m) es p) (some (tk, tot))) = some (tk2, tot2) := hst
                          have big := split_le (F := fun _ => false) (g := fun _ => 0) (H := H) (m := (limW g m).length) (given := given) (S := fun es p => (shownS d H n ts (limW g m) es p).map fun _ => 0) (fun es p k _ _ hk => by
                            obtain ⟨z, _, rfl⟩ := Option.map_eq_some_iff.mp hk
                            exact ⟨Int.le_refl _, WF_nn fun _ _ => Int.le_refl _⟩) (rows := [r]) (tk := tk) (tk' := tk2) (tot := 0) (tot' := 0) ndt sub ⟨Int.le_refl _, WF_nn fun _ _ => Int.le_refl _⟩ (by
                              show stepT H (limW g m).length given (fun es p => (shownS d H n ts (limW g m) es p).map fun _ => 0) (some (tk, 0)) r = some (tk2, 0)
                              rw [stepT82] at hst ⊢
                              cases hrt : rowT H (limW g m).length r with
                              | none => rw [hrt] at hst; cases hst
                              | some x =>
                                obtain ⟨es, p⟩ := x
                                rw [hrt] at hst
                                have hst : (if (es.all fun e => decide (e ∈ given) && !decide (e ∈ tk)) = true then (match shownS d H n ts (limW g m) es p with | none => none | some k => some (tk ++ es, tot + k)) else none) = some (tk2, tot2) := hst
                                show (if (es.all fun e => decide (e ∈ given) && !decide (e ∈ tk)) = true then (match (shownS d H n ts (limW g m) es p).map (fun _ => (0 : Int)) with | none => none | some k => some (tk ++ es, 0 + k)) else none) = some (tk2, 0)
                                split at hst
                                · rename_i hall
                                  rw [if_pos hall]
                                  cases hsh : shownS d H n ts (limW g m) es p with
                                  | none => rw [hsh] at hst; cases hst
                                  | some k =>
                                    rw [hsh] at hst
                                    cases hst
                                    rfl
                                · cases hst)
                          refine ih big.1 big.2.1 ?_ h
                          rw [stepT82] at hst
                          cases hrt : rowT H (limW g m).length r with
                          | none => rw [hrt] at hst; cases hst
                          | some x =>
                            obtain ⟨es, p⟩ := x
                            rw [hrt] at hst
                            have hst : (if (es.all fun e => decide (e ∈ given) && !decide (e ∈ tk)) = true then (match shownS d H n ts (limW g m) es p with | none => none | some k => some (tk ++ es, tot + k)) else none) = some (tk2, tot2) := hst
                            split at hst
                            · rename_i hall
                              rw [List.all_eq_true] at hall
                              cases hsh : shownS d H n ts (limW g m) es p with
                              | none => rw [hsh] at hst; cases hst
                              | some k =>
                                rw [hsh] at hst
                                cases hst
                                have nde : es.Nodup := by
                                  have := big.1
                                  exact (List.nodup_append.mp this).2.1
                                have := (rcH es p k nde (fun e he => big.2.1 e (List.mem_append_right _ he)) hsh).1
                                omega
                            · cases hst
                    exact nn List.nodup_nil (fun e he => by cases he) (Int.le_refl _) hf
                · obtain ⟨n1, n2, n3, n4⟩ := split_le (F := F) (g := g) (fun es p k n s hk => ⟨(rcH es p k n s hk).1, (rcH es p k n s hk).2 gd⟩) List.nodup_nil (fun e he => by cases he) ⟨Int.le_refl _, Int.le_refl _⟩ hf
                  have := WF_subset (F := F) (g := g) n1 n2 fun e he => by have := gp e he; omega
                  exact Int.le_trans n4 this
            · cases h
      | [_, _, _], h => cases h
      | [_, _, _, _], h => cases h
      | [w, p, q, a, b], h =>
        have h : (if w = .str "case" then caseS n (fun t x => shownS d H n (ts ++ [t]) (limW g m) given x) p q a b else none) = some k := h
        split at h
        · unfold caseS at h
          match p, q, h with
          | .int x, .int y, h =>
            have h : (if wbelow n (.int x) && (wbelow n (.int y) && !decide (x = y)) then minO (shownS d H n (ts ++ [⟨x, y, false⟩]) (limW g m) given a) (shownS d H n (ts ++ [⟨x, y, true⟩]) (limW g m) given b) else none) = some k := h
            split at h
            · cases h1 : shownS d H n (ts ++ [⟨x, y, false⟩]) (limW g m) given a with
              | none => rw [h1] at h; cases h
              | some z1 =>
                cases h2 : shownS d H n (ts ++ [⟨x, y, true⟩]) (limW g m) given b with
                | none => rw [h1, h2] at h; cases h
                | some z2 =>
                  rw [h1, h2] at h
                  have h : some (min z1 z2) = some k := h
                  cases h
                  obtain ⟨p1, q1⟩ := shown_le d (ts := ts ++ [⟨x, y, false⟩]) (by rw [List.length_append]; omega) nd gin gp h1
                  obtain ⟨p2, q2⟩ := shown_le d (ts := ts ++ [⟨x, y, true⟩]) (by rw [List.length_append]; omega) nd gin gp h2
                  refine ⟨by omega, fun gd => ?_⟩
                  cases hc : (c x == c y) with
                  | true =>
                    have := q1 (gd.snoc lm (by unfold brkC; show ((c x == c y) == false) = false; rw [hc]; rfl))
                    omega
                  | false =>
                    have := q2 (gd.snoc lm (by unfold brkC; show ((c x == c y) == true) = false; rw [hc]; rfl))
                    omega
            · cases h
        · cases h
      | _ :: _ :: _ :: _ :: _ :: _ :: _, h => cases h
/-! ### bounds: what sides break, the least of it, and mends by draws -/
def cS (sd : List Int) : Int → Bool := fun p => decide (sd.getD p.toNat 0 = 1)
def brN (ts : List Tie) (c : Int → Bool) (e : Int) : Bool := brkC c (tieAt ts e)
def Bits (n : Nat) (sd : List Int) : Prop := sd.length = n ∧ ∀ x ∈ sd, x = 0 ∨ x = 1
theorem tieAt82 {ts : List Tie} {j : Nat} {t : Tie} (h : ts[j]? = some t) : tieAt ts (j : Int) = t := by
  unfold tieAt
  rw [Int.toNat_natCast, List.getD_eq_getElem?_getD, h]
  rfl
def spBroken82 : Sp := fun vs H Q _ => ∃ (wv : V) (L : Addr) (n : Nat) (ts : List Tie) (g : Int → Int) (sd : List Int), vs = [wv, .ref L] ∧ WorldAt H wv n ts g ∧ WebOk n ts ∧ H L = some (.lst (sd.map V.int)) ∧ Bits n sd ∧ ∀ r H', Same H H' → H r = none → H' r = some (.lst (((rng ts.length).filter (brN ts (cS sd))).map V.int)) → Q (.ref r) H'
theorem bit_at {n : Nat} {sd : List Int} (b : Bits n sd) {p : Int} (h0 : 0 ≤ p) (h1 : p < n) : ∃ x, atI (sd.map V.int) p = some (.int x) ∧ (x = 0 ∨ x = 1) ∧ cS sd p = decide (x = 1) := by
  have hl := b.1
  have hp : p.toNat < sd.length := by omega
  refine ⟨sd[p.toNat], ?_, b.2 _ (List.getElem_mem hp), ?_⟩
  · obtain ⟨j, rfl⟩ : ∃ j : Nat, p = (j : Int) := ⟨p.toNat, by omega⟩
    rw [Int.toNat_natCast] at hp
    refine atI_nat ?_
    rw [List.getElem?_map, List.getElem?_eq_getElem hp]
    rfl
  · unfold cS
    rw [List.getD_eq_getElem?_getD, List.getElem?_eq_getElem hp]
    rfl
theorem brk_bits {n : Nat} {sd : List Int} {x y : Int} {t : Tie} (hx : x = 0 ∨ x = 1) (hy : y = 0 ∨ y = 1) (ex : cS sd t.one = decide (x = 1)) (ey : cS sd t.other = decide (y = 1)) : (!decide (V.bl (decide (V.int x = V.int y)) = V.bl (decide (V.str (kindS t.foe) = V.str "friend")))) = brkC (cS sd) t := by
  unfold brkC
  rw [ex, ey]
  rcases hx with rfl | rfl <;> rcases hy with rfl | rfl <;> cases t.foe <;> decide
theorem rng_succ82 (j : Nat) : rng (j + 1) = rng j ++ [(j : Int)] := by
  unfold rng
  rw [List.range_succ, List.map_append]
  rfl
theorem fil_len {F : Int → Bool} (j : Nat) : ((rng j).filter F).length ≤ j := by
  have := List.length_filter_le F (rng j)
  rw [rng_length] at this
  exact this
theorem in82 (k : Int) (ks : List Int) : inV (.int k) (ks.map V.int) = ks.contains k := by
  unfold inV
  rw [Bool.eq_iff_iff, List.any_map, List.any_eq_true, List.contains_iff_mem]
  constructor
  · rintro ⟨x, hx, e⟩
    have e' : (x == k) = true := e
    rw [beq_iff_eq] at e'
    rw [← e']
    exact hx
  · intro h
    exact ⟨k, h, by show (k == k) = true; simp⟩
theorem flat49 (ks : List Int) : (ks.map V.int).all flatV = true := by
  rw [List.all_eq_true]
  intro x hx
  obtain ⟨k, _, rfl⟩ := List.mem_map.mp hx
  rfl
def Wt82 (ts : List Tie) (g : Int → Int) (c : Int → Bool) : Int := WF (brN ts c) g (rng ts.length)
def spLeast82 : Sp := fun vs H Q _ => ∃ (wv : V) (n : Nat) (ts : List Tie) (g : Int → Int), vs = [wv] ∧ WorldAt H wv n ts g ∧ WebOk n ts ∧ n ≤ 6 ∧ ∀ c H', Same H H' → Q (.int (Wt82 ts g c)) H'
def spBounds82 : Sp := fun vs H Q _ => ∃ (d c : Addr) (wv : V) (n : Nat) (ts : List Tie) (g : Int → Int), vs = [.ref d, wv] ∧ Deck H d c ∧ WorldAt H wv n ts g ∧ WebOk n ts ∧ n ≤ 6 ∧ (∀ e ∈ rng ts.length, 1 ≤ g e) ∧ ∀ (r : Addr) (bs : List Int) H', H' r = some (.lst (bs.map V.int)) → 0 < bs.length → (∀ b ∈ bs, ∃ k, Wt82 ts g k ≤ b) → (r ≠ d ∧ r ≠ c) → Deck H' d c → Kp d c H H' → Q (.ref r) H'
def spIsBound (Ps : List Addr) (d : Nat) : Sp := fun vs H Q _ => ∃ (wv v : V) (B : Addr) (n : Nat) (ts : List Tie) (g : Int → Int) (bs : List Int), vs = [wv, v, .ref B] ∧ WorldAt H wv n ts g ∧ WebOk n ts ∧ ts.length + d ≤ 120 ∧ PapV d H v ∧ H B = some (.lst (bs.map V.int)) ∧ 0 < bs.length ∧ (∀ b ∈ bs, ∃ k, Wt82 ts g k ≤ b) ∧ (∀ e ∈ rng ts.length, 1 ≤ g e) ∧ Tabs Ps H ∧ ∀ H', Kt Ps H H' → Q (.bl true) H'
theorem good_brN {n : Int} (ts : List Tie) (c : Int → Bool) : GoodC c (brN ts c) ts.length ts := fun e h0 h1 => by
  rw [decide_eq_true h1, Bool.true_and]
  rfl
theorem pow2_at : ∀ k ∈ List.range 6, ∃ v : Int, atI [V.int 1, .int 2, .int 4, .int 8, .int 16, .int 32] (k : Nat) = some (.int v) ∧ 0 < v ∧ v < 1073741824 := by
  intro k hk
  have hk := List.mem_range.mp hk
  match k, hk with
  | 0, _ => exact ⟨1, rfl, by decide, by decide⟩
  | 1, _ => exact ⟨2, rfl, by decide, by decide⟩
  | 2, _ => exact ⟨4, rfl, by decide, by decide⟩
  | 3, _ => exact ⟨8, rfl, by decide, by decide⟩
  | 4, _ => exact ⟨16, rfl, by decide, by decide⟩
  | 5, _ => exact ⟨32, rfl, by decide, by decide⟩
  | k + 6, h => omega
section
variable {P : Program} {w : World} {K : PySem.W.Frag} {mg : Str → Option Value} {base : Heap}
set_option maxHeartbeats 8000000 in
theorem ok_l_broken {f : Addr} {fd : FuncData} (F : Fun K "_law_broken" "_law_broken" s_l_broken f fd) (M : Free mg) : FnOk P w K mg base CX0 1 f fd ["_law_world_here", "_law_sides"] spBroken82 := by
  refine F.ok sc_l_broken (fun vs H Q E h => ?_) (fun cdv A outer s H vs Q E hr h => ?_)
  · obtain ⟨wv, L, n, ts, g, sd, rfl, _⟩ := h
    rfl
  · obtain ⟨wv, L, n, ts, g, sd, rfl, hW, ok, hL, hb, q⟩ := h
    refine ⟨_, (pss_cons (ps_set (i := 2) sc_l_broken.nd rfl (.inl rfl) (pe_lst pa_nil))
      (pss_cons (ps_for PassesOwn.never rfl (pi_range1 (by rfl) M.range (pa_cons (pe_callB call_len_seq (by rfl) M.len PySem.boot_len (pa_cons (pe_ix ix_tup (pv 0) pe_int (fun _ _ => rfl)) pa_nil)) pa_nil)) (pg_name (i := 3) sc_l_broken.nd rfl (.inl rfl))
        (pss_cons (ps_asg (pe_ix ix_tup (pe_ix ix_tup (pv 0) pe_int (fun _ _ => rfl)) (pv 3) (fun _ _ => rfl)) (pg_tup rfl (pgs_cons (pg_name (i := 4) sc_l_broken.nd rfl (.inl rfl)) (pgs_cons (pg_name (i := 5) sc_l_broken.nd rfl (.inl rfl)) (pgs_cons (pg_name (i := 6) sc_l_broken.nd rfl (.inl rfl)) pgs_nil)))))
        (pss_one (ps_if (pt_cmpR op_ne (pe_cmpR op_eq (pe_ix ix_list (pv 1) (pv 4) (fun _ _ => rfl)) (pe_ix ix_list (pv 1) (pv 5) (fun _ _ => rfl)) (nomark _)) (pe_cmpR op_eq (pv 6) pe_str (nomark _)) (nomark _))
          (pss_one (ps_expr (pe_bm PySem.F.plainAttrs_list PySem.F.slot_list_append PySem.F.type_list_append mt_append (pv 2) (pa_cons (pv 3) pa_nil))))
          pss_nil))))
      (pss_one (ps_ret (pv 2))))), ?_⟩
    obtain ⟨wa, tb, wt, us, rfl, hwa, htb, hus, hwt⟩ := hW.ex
    have few := ok.few
    have lus : us.length = ts.length := Paired.length hus
    refine ⟨Nat.zero_le _, fun R nR => ?_⟩
    have s1 := same_new (o := .lst []) nR
    refine ⟨.ref wa, rfl, wa, _, 1, .ref tb, rfl, rfl, SqT.of (s1 _ _ hwa), rfl, tb, us, rfl, .inr (SqT.of (s1 _ _ htb)), us.length, rfl, by omega, by omega, ?_⟩
    rw [Int.toNat_natCast, lus]
    refine for_range (lo := 0) (n := ts.length) (fun j σ' H' => ∃ (y3 y4 y5 y6 : Option V), σ' = [some (.ref wa), some (.ref L), some (.ref R), y3, y4, y5, y6] ∧ H' R = some (.lst (((rng j).filter (brN ts (cS sd))).map V.int)) ∧ Same H H') ⟨none, none, none, none, rfl, upd_same, s1⟩ ?_ ?_
    · rintro j σ' H2 hj ⟨y3, y4, y5, y6, rfl, hR, s2⟩
      rw [Int.zero_add]
      obtain ⟨ut, eut, euo⟩ := getI (xs := us) (i := (j : Int)) (by omega) (by omega)
      obtain ⟨t, et, cc, rfl, hcc⟩ := Paired.at hus euo
      rw [Int.toNat_natCast] at et
      have ot := ok.ok t (List.mem_of_getElem? et)
      obtain ⟨x, ax, bx, ex⟩ := bit_at hb ot.1 ot.2.1
      obtain ⟨y, ay, by', ey⟩ := bit_at hb ot.2.2.1 ot.2.2.2.1
      refine ⟨.ref wa, rfl, wa, _, 1, .ref tb, rfl, rfl, SqT.of (s2 _ _ hwa), rfl, .int (j : Nat), rfl, tb, us, (j : Nat), .ref cc, rfl, rfl, SqT.of (s2 _ _ htb), eut, cc, _, rfl, SqT.of (s2 _ _ hcc), rfl, _, _, rfl, _, _, rfl, _, _, rfl, rfl, ?_⟩
      refine ⟨.ref L, rfl, .int t.one, rfl, L, _, t.one, _, rfl, rfl, SqL.of (s2 _ _ hL), ax, .ref L, rfl, .int t.other, rfl, L, _, t.other, _, rfl, rfl, SqL.of (s2 _ _ hL), ay, rfl, .str (kindS t.foe), rfl, rfl, rfl, _, rfl, ?_⟩
      rw [brk_bits (n := n) bx by' ex ey]
      have eb : brN ts (cS sd) (j : Int) = brkC (cS sd) t := by
        unfold brN
        rw [tieAt82 et]
      have lf := fil_len (F := brN ts (cS sd)) j
      rw [rng_succ82, List.filter_append]
      cases hk : brkC (cS sd) t with
      | true =>
        rw [List.filter_cons_of_pos (by rw [eb, hk])]
        refine ⟨.ref R, rfl, .inl ⟨rfl, _, SqL.of hR⟩, .int (j : Nat), rfl, R, _, .int (j : Nat), rfl, rfl, hR, by rw [List.length_map]; exact small1000 (by omega), ?_⟩
        refine ⟨_, _, _, _, rfl, ?_, Same.mut s2 nR⟩
        rw [upd_same, List.map_append]
        rfl
      | false =>
        rw [List.filter_cons_of_neg (by rw [eb, hk]; exact Bool.false_ne_true), List.filter_nil, List.append_nil]
        exact ⟨_, _, _, _, rfl, hR, s2⟩
    · rintro σ' H2 ⟨y3, y4, y5, y6, rfl, hR, s2⟩
      exact ⟨.ref R, rfl, q R H2 s2 nR hR⟩
set_option maxHeartbeats 8000000 in
theorem ok_l_least {f : Addr} {fd : FuncData} (F : Fun K "_law_least" "_law_least" s_l_least f fd) (M : Free mg) (D_l_broken : Df P w K mg base 1 "_law_broken" ["_law_world_here", "_law_sides"] spBroken82) (D_l_weight : Df P w K mg base 1 "_law_weight" ["_law_weights_here", "_law_tie"] spLWeight) : FnOk P w K mg base CX0 2 f fd ["_law_world_here"] spLeast82 := by
  obtain ⟨f_l_broken, fd_l_broken, G_l_broken, g_l_broken, k_l_broken, b_l_broken⟩ := D_l_broken
  obtain ⟨f_l_weight, fd_l_weight, G_l_weight, g_l_weight, k_l_weight, b_l_weight⟩ := D_l_weight
  refine F.ok sc_l_least (fun vs H Q E h => ?_) (fun cdv A outer s H vs Q E hr h => ?_)
  · obtain ⟨wv, n, ts, g, rfl, _⟩ := h
    rfl
  · obtain ⟨wv, n, ts, g, rfl, hW, ok, n6, q⟩ := h
    refine ⟨_, (pss_cons (ps_set (i := 1) sc_l_least.nd rfl (.inl rfl) pe_non)
      (pss_cons (ps_set (i := 2) sc_l_least.nd rfl (.inr rfl) pe_int)
      (pss_cons (ps_while PassesOwn.never (PW.pt (pw_or (pt_cmpR op_isN (pv 1) pe_non (nomark _)) (pw_or1 (pt_cmpR op_lt (pv 2) (pe_op op_pow pe_int pe_int) (nomark _)))))
        (pss_cons (ps_setLc (i := 3) (own := [("_law_k", 4)]) (g := (gName 4)) (tt := tYes) rfl sc_l_least.nd rfl rfl (sw_true rfl rfl rfl (by decide +kernel)) (pi_range1 (by rfl) M.range (pa_cons (pe_ix ix_tup (pv 0) pe_int (fun _ _ => rfl)) pa_nil)) (blkOk_by (N := N_l_least) (sc := defScope s_l_least) (own := [("_law_k", 4)]) (by decide +kernel)) (fun _ _ _ _ _ => (pg_name (i := 4) sc_l_least.nd rfl (.inl rfl))) (fun _ _ _ _ _ => pts_nil) (fun _ _ _ _ _ => (pe_op op_mod (pe_op op_fdiv (pv 2) (pe_ix (r := rIxL K) ix_list (pe_lst (pa_cons pe_int (pa_cons pe_int (pa_cons pe_int (pa_cons pe_int (pa_cons pe_int (pa_cons pe_int pa_nil))))))) (pv 4) (fun _ _ => rfl))) pe_int)))
        (pss_cons (ps_set (i := 5) sc_l_least.nd rfl (.inl rfl) (pe_callB (cr_sum rfl) (by rfl) M.sum (by decide +kernel) (pa_cons (pe_lc (own := [("_law_tie", 6)]) (g := (gName 6)) (tt := tYes) rfl sc_l_least.nd (pi_list (pe_call G_l_broken (hr.mono (by decide)) (by rfl) g_l_broken k_l_broken b_l_broken .nil pass0 (pa_cons (pv 0) (pa_cons (pv 3) pa_nil)))) (blkOk_by (N := N_l_least) (sc := defScope s_l_least) (own := [("_law_tie", 6)]) (by decide +kernel)) (fun _ _ _ _ _ => (pg_name (i := 6) sc_l_least.nd rfl (.inl rfl))) (fun _ _ _ _ _ => pts_nil) (fun _ _ _ _ _ => (pe_call G_l_weight (hr.mono (by decide)) (by rfl) g_l_weight k_l_weight b_l_weight .nil pass0 (pa_cons (pe_ix (r := rIxT K) ix_tup (pv 0) pe_int (fun _ _ => rfl)) (pa_cons (pv 6) pa_nil))))) pa_nil)))
        (Evl.pss_cut (ps_if (PW.pt (pw_or (pt_cmpR op_isN (pv 1) pe_non (nomark _)) (pw_or1 (pt_cmpR op_lt (pv 5) (pv 1) (nomark _)))))
          (pss_one (ps_set (i := 1) sc_l_least.nd rfl (.inl rfl) (pv 5)))
          pss_nil)
        (pss_one (ps_set (i := 2) sc_l_least.nd rfl (.inr rfl) (pe_op op_add (pv 2) pe_int)))))))
      (pss_one (ps_ret (pv 1)))))), ?_⟩
    obtain ⟨wa, tb, wt, us, rfl, hwa, htb, hus, hwt⟩ := id hW.ex
    have few := ok.few
    refine ⟨fun m σ' H' => ∃ (y1 y3 y5 : Option V) (z : Nat) (x : V), σ' = [some (.ref wa), some x, some (.int z), y3, none, y5, none] ∧ (x = .non ∨ ∃ c, x = .int (Wt82 ts g c)) ∧ (x = .non → z = 0) ∧ z ≤ 32 ∧ Same H H' ∧ m = 33 - z, ⟨33, none, none, none, 0, .non, rfl, .inl rfl, fun _ => rfl, by omega, Same.refl _, rfl⟩, ?_⟩
    rintro m σ' H2 ⟨y1, y3, y5, z, x, rfl, hx, hz0, hz, s2, rfl⟩
    rcases hx with rfl | ⟨c, rfl⟩
    · have z0 := hz0 rfl
      refine ⟨.non, rfl, rfl, _, rfl, ?_⟩
      refine ⟨_, fun _ _ h => h, ?_⟩
      refine ⟨.ref wa, rfl, wa, _, 0, .int n, rfl, rfl, SqT.of (s2 _ _ hwa), rfl, n, rfl, by omega, by omega, fun Z nZ => ?_⟩
      rw [Int.toNat_natCast]
      refine lc_range (lo := 0) (n := n) (fun j H' => ∃ sd : List Int, H' Z = some (.lst (sd.map V.int)) ∧ sd.length = j ∧ (∀ x ∈ sd, x = 0 ∨ x = 1) ∧ Same H2 H') ⟨[], upd_same, rfl, fun x hx => (by cases hx), same_new nZ⟩ ?_ ?_
      · rintro j H3 hj ⟨sd, hZ, ls, b01, s3⟩
        rw [Int.zero_add]
        obtain ⟨v, av, v0, v1⟩ := pow2_at j (List.mem_range.mpr (by omega))
        refine ⟨rfl, .int z, rfl, by show 6 ≤ sizeLine; decide, fun p np => ?_⟩
        have sp := same_new (o := .lst [V.int 1, .int 2, .int 4, .int 8, .int 16, .int 32]) np
        refine ⟨.int (j : Nat), rfl, p, _, (j : Nat), .int v, rfl, rfl, SqL.of upd_same, av, z, v, rfl, rfl, ⟨v0, v1⟩, _, 2, rfl, rfl, (show (0 : Int) < 2 by decide), ?_⟩
        have hZp := sp _ _ hZ
        refine ⟨_, hZp, by rw [List.length_map]; exact small1000 (by omega), sd ++ [(z : Int) / v % 2], by rw [upd_same, List.map_append]; rfl, by rw [List.length_append, ls]; rfl, fun x hx => ?_, Same.mut (s3.trans sp) nZ⟩
        rcases List.mem_append.mp hx with y | y
        · exact b01 x y
        · rw [List.mem_singleton.mp y]
          omega
      rintro H3 ⟨sd, hZ, ls, b01, s3⟩
      have s03 := s2.trans s3
      refine ⟨.ref wa, rfl, .ref Z, rfl, .ref wa, Z, n, ts, g, sd, rfl, hW.tk (Same.tk s03), ok, hZ, ⟨ls, b01⟩, fun r H4 s4 nr hr4 => ?_⟩
      have s04 := s03.trans s4
      refine ⟨r, rfl, ⟨_, SqL.of hr4⟩, fun Y nY => ?_⟩
      have lB := fil_len (F := brN ts (cS sd)) ts.length
      have mB : ∀ e ∈ (rng ts.length).filter (brN ts (cS sd)), 0 ≤ e ∧ e < (ts.length : Int) := fun e he => mem_rng.mp (List.mem_filter.mp he).1
      have eW : Wt82 ts g (cS sd) = (((rng ts.length).filter (brN ts (cS sd))).map g).sum := rfl
      generalize (rng ts.length).filter (brN ts (cS sd)) = B at hr4 lB mB eW
      refine lc_list (xs := B.map V.int) (fun j H' => H' Y = some (.lst (((B.take j).map g).map V.int)) ∧ Same H4 H') ⟨upd_same, same_new nY⟩ (fun j H' _ h => SqL.of (h.2 _ _ hr4)) ?_ ?_
      · rintro j x H5 ej ⟨hY, s5⟩
        rw [List.getElem?_map] at ej
        obtain ⟨e, ee, rfl⟩ := Option.map_eq_some_iff.mp ej
        have er := mB e (List.mem_of_getElem? ee)
        have jl := (List.getElem?_eq_some_iff.mp ee).1
        have s05 := s04.trans s5
        refine ⟨rfl, .ref wa, rfl, wa, _, 2, wt, rfl, rfl, SqT.of (s05 _ _ hwa), rfl, .int e, rfl, ?_⟩
        unfold tNil
        show (spLWeight ([wt, .int e] ++ []) H5 _ _)
        refine ask_weight (hwt.tk (Same.tk s05)) er.1 er.2 ⟨_, hY, by rw [List.length_map, List.length_map, List.length_take]; exact small1000 (by omega), ?_, Same.mut s5 nY⟩
        rw [upd_same, List.take_add_one, ee, List.map_append, List.map_append]
        rfl
      rintro H5 ⟨hY, s5⟩
      rw [List.length_map, List.take_length] at hY
      have s05 := s04.trans s5
      refine ⟨Y, _, rfl, SqL.of hY, ?_⟩
      rw [← eW]
      refine ⟨fun σ' H' => ∃ (y3 y5 : Option V) (c' : Int → Bool), σ' = [some (.ref wa), some (.int (Wt82 ts g c')), some (.int z), y3, none, y5, none] ∧ Same H H', ?_, ?_⟩
      · refine ⟨.non, rfl, rfl, _, rfl, ?_⟩
        exact ⟨_, rfl, _, _, cS sd, rfl, s05⟩
      rintro σ' H6 ⟨y3, y5, c', rfl, s6⟩
      exact ⟨.int z, rfl, _, _, rfl, rfl, 33 - (z + 1), by omega, none, _, _, z + 1, _, rfl, .inr ⟨c', rfl⟩, fun h => (by cases h), by omega, s6, rfl⟩

    · refine ⟨.int _, rfl, rfl, _, rfl, .int z, rfl, 2, 5, rfl, rfl, ⟨by decide, by decide, by decide⟩, _, _, rfl, rfl, _, rfl, ?_⟩
      by_cases h32 : (z : Int) < 2 ^ Int.toNat 5
      rotate_left
      · rw [decide_eq_false h32]
        exact ⟨_, rfl, q c H2 s2⟩
      rw [decide_eq_true h32]
      have h32 : (z : Int) < 32 := h32
      refine ⟨_, fun _ _ h => h, ?_⟩
      refine ⟨.ref wa, rfl, wa, _, 0, .int n, rfl, rfl, SqT.of (s2 _ _ hwa), rfl, n, rfl, by omega, by omega, fun Z nZ => ?_⟩
      rw [Int.toNat_natCast]
      refine lc_range (lo := 0) (n := n) (fun j H' => ∃ sd : List Int, H' Z = some (.lst (sd.map V.int)) ∧ sd.length = j ∧ (∀ x ∈ sd, x = 0 ∨ x = 1) ∧ Same H2 H') ⟨[], upd_same, rfl, fun x hx => (by cases hx), same_new nZ⟩ ?_ ?_
      · rintro j H3 hj ⟨sd, hZ, ls, b01, s3⟩
        rw [Int.zero_add]
        obtain ⟨v, av, v0, v1⟩ := pow2_at j (List.mem_range.mpr (by omega))
        refine ⟨rfl, .int z, rfl, by show 6 ≤ sizeLine; decide, fun p np => ?_⟩
        have sp := same_new (o := .lst [V.int 1, .int 2, .int 4, .int 8, .int 16, .int 32]) np
        refine ⟨.int (j : Nat), rfl, p, _, (j : Nat), .int v, rfl, rfl, SqL.of upd_same, av, z, v, rfl, rfl, ⟨v0, v1⟩, _, 2, rfl, rfl, (show (0 : Int) < 2 by decide), ?_⟩
        have hZp := sp _ _ hZ
        refine ⟨_, hZp, by rw [List.length_map]; exact small1000 (by omega), sd ++ [(z : Int) / v % 2], by rw [upd_same, List.map_append]; rfl, by rw [List.length_append, ls]; rfl, fun x hx => ?_, Same.mut (s3.trans sp) nZ⟩
        rcases List.mem_append.mp hx with y | y
        · exact b01 x y
        · rw [List.mem_singleton.mp y]
          omega
      rintro H3 ⟨sd, hZ, ls, b01, s3⟩
      have s03 := s2.trans s3
      refine ⟨.ref wa, rfl, .ref Z, rfl, .ref wa, Z, n, ts, g, sd, rfl, hW.tk (Same.tk s03), ok, hZ, ⟨ls, b01⟩, fun r H4 s4 nr hr4 => ?_⟩
      have s04 := s03.trans s4
      refine ⟨r, rfl, ⟨_, SqL.of hr4⟩, fun Y nY => ?_⟩
      have lB := fil_len (F := brN ts (cS sd)) ts.length
      have mB : ∀ e ∈ (rng ts.length).filter (brN ts (cS sd)), 0 ≤ e ∧ e < (ts.length : Int) := fun e he => mem_rng.mp (List.mem_filter.mp he).1
      have eW : Wt82 ts g (cS sd) = (((rng ts.length).filter (brN ts (cS sd))).map g).sum := rfl
      generalize (rng ts.length).filter (brN ts (cS sd)) = B at hr4 lB mB eW
      refine lc_list (xs := B.map V.int) (fun j H' => H' Y = some (.lst (((B.take j).map g).map V.int)) ∧ Same H4 H') ⟨upd_same, same_new nY⟩ (fun j H' _ h => SqL.of (h.2 _ _ hr4)) ?_ ?_
      · rintro j x H5 ej ⟨hY, s5⟩
        rw [List.getElem?_map] at ej
        obtain ⟨e, ee, rfl⟩ := Option.map_eq_some_iff.mp ej
        have er := mB e (List.mem_of_getElem? ee)
        have jl := (List.getElem?_eq_some_iff.mp ee).1
        have s05 := s04.trans s5
        refine ⟨rfl, .ref wa, rfl, wa, _, 2, wt, rfl, rfl, SqT.of (s05 _ _ hwa), rfl, .int e, rfl, ?_⟩
        unfold tNil
        show (spLWeight ([wt, .int e] ++ []) H5 _ _)
        refine ask_weight (hwt.tk (Same.tk s05)) er.1 er.2 ⟨_, hY, by rw [List.length_map, List.length_map, List.length_take]; exact small1000 (by omega), ?_, Same.mut s5 nY⟩
        rw [upd_same, List.take_add_one, ee, List.map_append, List.map_append]
        rfl
      rintro H5 ⟨hY, s5⟩
      rw [List.length_map, List.take_length] at hY
      have s05 := s04.trans s5
      refine ⟨Y, _, rfl, SqL.of hY, ?_⟩
      rw [← eW]
      refine ⟨fun σ' H' => ∃ (y3 y5 : Option V) (c' : Int → Bool), σ' = [some (.ref wa), some (.int (Wt82 ts g c')), some (.int z), y3, none, y5, none] ∧ Same H H', ?_, ?_⟩
      · refine ⟨.int _, rfl, rfl, _, rfl, _, rfl, _, rfl, _, _, rfl, rfl, _, rfl, ?_⟩
        refine ite2 (fun _ => ?_) (fun _ => ?_)
        · exact ⟨_, rfl, _, _, cS sd, rfl, s05⟩
        · exact ⟨_, _, c, rfl, s05⟩
      rintro σ' H6 ⟨y3, y5, c', rfl, s6⟩
      exact ⟨.int z, rfl, _, _, rfl, rfl, 33 - (z + 1), by omega, none, _, _, z + 1, _, rfl, .inr ⟨c', rfl⟩, fun h => (by cases h), by omega, s6, rfl⟩
set_option maxHeartbeats 8000000 in
theorem ok_l_bounds {f : Addr} {fd : FuncData} (F : Fun K "_law_bounds" "_law_bounds" s_l_bounds f fd) (M : Free mg) (D_l_least : Df P w K mg base 2 "_law_least" ["_law_world_here"] spLeast82) (D_l_draw : Df P w K mg base 1 "_law_draw" ["_law_feed_here", "_law_most"] spDraw) (D_l_broken : Df P w K mg base 1 "_law_broken" ["_law_world_here", "_law_sides"] spBroken82) (D_l_weight : Df P w K mg base 1 "_law_weight" ["_law_weights_here", "_law_tie"] spLWeight) : FnOk P w K mg base CX0 3 f fd ["_law_feed_here", "_law_world_here"] spBounds82 := by
  obtain ⟨f_l_least, fd_l_least, G_l_least, g_l_least, k_l_least, b_l_least⟩ := D_l_least
  obtain ⟨f_l_draw, fd_l_draw, G_l_draw, g_l_draw, k_l_draw, b_l_draw⟩ := D_l_draw
  obtain ⟨f_l_broken, fd_l_broken, G_l_broken, g_l_broken, k_l_broken, b_l_broken⟩ := D_l_broken
  obtain ⟨f_l_weight, fd_l_weight, G_l_weight, g_l_weight, k_l_weight, b_l_weight⟩ := D_l_weight
  refine F.ok sc_l_bounds (fun vs H Q E h => ?_) (fun cdv A outer s H vs Q E hr h => ?_)
  · obtain ⟨d, c, wv, n, ts, g, rfl, _⟩ := h
    rfl
  · obtain ⟨d, c, wv, n, ts, g, rfl, hD, hW, ok, n6, gp, q⟩ := h
    refine ⟨_, (pss_cons (ps_set (i := 2) sc_l_bounds.nd rfl (.inl rfl) (pe_lst (pa_cons (pe_call G_l_least (hr.mono (by decide)) (by rfl) g_l_least k_l_least b_l_least .nil pass0 (pa_cons (pv 1) pa_nil)) pa_nil)))
      (pss_cons (ps_for PassesOwn.never rfl (pi_range1 (by rfl) M.range (pa_cons pe_int pa_nil)) (pg_name (i := 3) sc_l_bounds.nd rfl (.inl rfl))
        (pss_cons (ps_set (i := 4) sc_l_bounds.nd rfl (.inr rfl) (pe_lc (own := [("_law_place", 5)]) (g := (gName 5)) (tt := tYes) rfl sc_l_bounds.nd (pi_range1 (by rfl) M.range (pa_cons (pe_ix ix_tup (pv 1) pe_int (fun _ _ => rfl)) pa_nil)) (blkOk_by (N := N_l_bounds) (sc := defScope s_l_bounds) (own := [("_law_place", 5)]) (by decide +kernel)) (fun _ _ _ _ _ => (pg_name (i := 5) sc_l_bounds.nd rfl (.inl rfl))) (fun _ _ _ _ _ => pts_nil) (fun _ _ _ _ _ => (pe_call G_l_draw (hr.mono (by decide)) (by rfl) g_l_draw k_l_draw b_l_draw .nil pass0 (pa_cons (pv 0) (pa_cons pe_int pa_nil))))))
        (pss_cons (ps_setLc (i := 6) (own := [("_law_tie", 7)]) (g := (gName 7)) (te := tVar 7) rfl sc_l_bounds.nd rfl rfl (sw_true rfl rfl rfl (by decide +kernel)) (pi_range1 (by rfl) M.range (pa_cons (pe_callB call_len_seq (by rfl) M.len PySem.boot_len (pa_cons (pe_ix ix_tup (pv 1) pe_int (fun _ _ => rfl)) pa_nil)) pa_nil)) (blkOk_by (N := N_l_bounds) (sc := defScope s_l_bounds) (own := [("_law_tie", 7)]) (by decide +kernel)) (fun _ _ _ _ _ => (pg_name (i := 7) sc_l_bounds.nd rfl (.inl rfl))) (fun _ _ _ _ _ => (pts_one (PW.pt (pw_or (pt_cmpR (r := rIn K false) op_in_seq (pv 7) (pe_call G_l_broken (hr.mono (by decide)) (by rfl) g_l_broken k_l_broken b_l_broken .nil pass0 (pa_cons (pv 1) (pa_cons (pv 4) pa_nil))) rfl) (pw_or1 (pt_cmpR op_eq (pe_call G_l_draw (hr.mono (by decide)) (by rfl) g_l_draw k_l_draw b_l_draw .nil pass0 (pa_cons (pv 0) (pa_cons pe_int pa_nil))) pe_int (nomark _))))))) (fun _ _ _ _ _ => (pv 7)))
        (pss_one (ps_expr (pe_bm PySem.F.plainAttrs_list PySem.F.slot_list_append PySem.F.type_list_append mt_append (pv 2) (pa_cons (pe_callB (cr_sum rfl) (by rfl) M.sum (by decide +kernel) (pa_cons (pe_lc (own := [("_law_tie", 7)]) (g := (gName 7)) (tt := tYes) rfl sc_l_bounds.nd (pi_list (pv 6)) (blkOk_by (N := N_l_bounds) (sc := defScope s_l_bounds) (own := [("_law_tie", 7)]) (by decide +kernel)) (fun _ _ _ _ _ => (pg_name (i := 7) sc_l_bounds.nd rfl (.inl rfl))) (fun _ _ _ _ _ => pts_nil) (fun _ _ _ _ _ => (pe_call G_l_weight (hr.mono (by decide)) (by rfl) g_l_weight k_l_weight b_l_weight .nil pass0 (pa_cons (pe_ix (r := rIxT K) ix_tup (pv 1) pe_int (fun _ _ => rfl)) (pa_cons (pv 7) pa_nil))))) pa_nil)) pa_nil)))))))
      (pss_one (ps_ret (pv 2))))), ?_⟩
    obtain ⟨wa, tb, wt, us, rfl, hwa, htb, hus, hwt⟩ := id hW.ex
    have few := ok.few
    have lus : us.length = ts.length := Paired.length hus
    refine ⟨.ref wa, rfl, .ref wa, n, ts, g, rfl, hW, ok, n6, fun c0 H1 s1 => ⟨by show 1 ≤ sizeLine; decide, fun R nR => ?_⟩⟩
    have D1 := hD.same s1
    have Rd := D1.ned nR
    have nR0 := s1.free nR
    have s2 := s1.trans (same_new (o := .lst [V.int (Wt82 ts g c0)]) nR)
    refine ⟨3, rfl, by decide, by decide, ?_⟩
    refine for_range (lo := 0) (n := 3) (fun j σ' H' => ∃ (y3 y4 y6 : Option V) (bs : List Int), σ' = [some (.ref d), some (.ref wa), some (.ref R), y3, y4, none, y6, none] ∧ H' R = some (.lst (bs.map V.int)) ∧ bs.length = j + 1 ∧ (∀ b ∈ bs, ∃ k, Wt82 ts g k ≤ b) ∧ Deck H' d c ∧ Kp d c H H') ⟨none, none, none, [Wt82 ts g c0], rfl, upd_same, rfl, fun b hb => ⟨c0, by rw [List.mem_singleton.mp hb]; exact Int.le_refl _⟩, hD.same s2, Same.kp s2⟩ ?_ ?_
    · rintro j σ' H3 hj ⟨y3, y4, y6, bs, rfl, hR, lb, hbs, D3, K3⟩
      have tk3 := K3.tk hD
      refine ⟨.ref wa, rfl, wa, _, 0, .int n, rfl, rfl, SqT.of (tk3 _ _ hwa), rfl, n, rfl, by omega, by omega, fun Z nZ => ?_⟩
      have Zd := D3.ned nZ
      have ZR : Z ≠ R := fun z => by rw [z, hR] at nZ; cases nZ
      have nZ0 := K3.free nZ Zd.1 Zd.2
      have s4 := same_new (o := .lst []) nZ
      rw [Int.toNat_natCast]
      refine lc_range (lo := 0) (n := n) (fun i H' => ∃ sd : List Int, H' Z = some (.lst (sd.map V.int)) ∧ sd.length = i ∧ (∀ x ∈ sd, x = 0 ∨ x = 1) ∧ H' R = some (.lst (bs.map V.int)) ∧ Deck H' d c ∧ Kp d c H H') ⟨[], upd_same, rfl, fun x hx => (by cases hx), s4 _ _ hR, D3.same s4, K3.trans (Same.kp s4)⟩ ?_ ?_
      · rintro i H4 hi ⟨sd, hZ, ls, b01, hR4, D4, K4⟩
        refine ⟨rfl, .ref d, rfl, d, c, 2, rfl, D4, by decide, by decide, fun v H5 a5 b5 D5 K5 => ?_⟩
        have hZ5 := K5 _ _ Zd.1 Zd.2 hZ
        refine ⟨_, hZ5, by rw [List.length_map]; exact small1000 (by omega), sd ++ [v], by rw [upd_same, List.map_append]; rfl, by rw [List.length_append, ls]; rfl, fun x hx => ?_, by rw [upd_ne (Ne.symm ZR)]; exact K5 _ _ Rd.1 Rd.2 hR4, D5.mut Zd.1 Zd.2, (K4.trans K5).mut nZ0⟩
        rcases List.mem_append.mp hx with y | y
        · exact b01 x y
        · rw [List.mem_singleton.mp y]
          omega
      rintro H4 ⟨sd, hZ, ls, b01, hR4, D4, K4⟩
      have tk4 := K4.tk hD
      -- the mend
      refine ⟨.ref wa, rfl, wa, _, 1, .ref tb, rfl, rfl, SqT.of (tk4 _ _ hwa), rfl, tb, us, rfl, .inr (SqT.of (tk4 _ _ htb)), us.length, rfl, by omega, by omega, fun Y nY => ?_⟩
      have Yd := D4.ned nY
      have YZ : Y ≠ Z := fun z => by rw [z, hZ] at nY; cases nY
      have YR : Y ≠ R := fun z => by rw [z, hR4] at nY; cases nY
      have nY0 := K4.free nY Yd.1 Yd.2
      have s5 := same_new (o := .lst []) nY
      rw [Int.toNat_natCast, lus]
      refine lc_range (lo := 0) (n := ts.length) (fun i H' => ∃ ms : List Int, H' Y = some (.lst (ms.map V.int)) ∧ ms.length ≤ i ∧ (∀ e ∈ ms, 0 ≤ e ∧ e < (ts.length : Int)) ∧ WF (brN ts (cS sd)) g (rng i) ≤ (ms.map g).sum ∧ H' Z = some (.lst (sd.map V.int)) ∧ H' R = some (.lst (bs.map V.int)) ∧ Deck H' d c ∧ Kp d c H H') ⟨[], upd_same, Nat.le_refl _, fun e he => (by cases he), Int.le_refl _, s5 _ _ hZ, s5 _ _ hR4, D4.same s5, K4.trans (Same.kp s5)⟩ ?_ ?_
      · rintro i H5 hi ⟨ms, hY, lm, mr, wm, hZ5, hR5, D5, K5⟩
        have tk5 := K5.tk hD
        rw [Int.zero_add]
        have gi := gp (i : Int) (mem_rng.mpr ⟨by omega, by omega⟩)
        have wi : WF (brN ts (cS sd)) g (rng (i + 1)) = WF (brN ts (cS sd)) g (rng i) + (if brN ts (cS sd) (i : Int) = true then g i else 0) := by
          rw [rng_succ82, WF_app]
          congr 1
          unfold WF
          rw [List.filter_cons]
          split <;> simp
        refine ⟨rfl, .int (i : Nat), rfl, .ref wa, rfl, .ref Z, rfl, .ref wa, Z, n, ts, g, sd, rfl, hW.tk tk5, ok, hZ5, ⟨ls, b01⟩, fun r H6 s6 nr hr6 => ?_⟩
        have K6 := K5.trans (Same.kp s6)
        have D6 := D5.same s6
        have hY6 := s6 _ _ hY
        have hZ6 := s6 _ _ hZ5
        have hR6 := s6 _ _ hR5
        refine ⟨r, _, rfl, .inl (SqL.of hr6), rfl, flat49 _, _, rfl, ?_⟩
        have add : ∀ (H7 : Hp), H7 Y = some (.lst (ms.map V.int)) → H7 Z = some (.lst (sd.map V.int)) → H7 R = some (.lst (bs.map V.int)) → Deck H7 d c → Kp d c H H7 → ∃ acc, H7 Y = some (.lst acc) ∧ acc.length < sizeLine ∧ ∃ ms : List Int, (upd H7 Y (.lst (acc ++ [V.int (i : Nat)]))) Y = some (.lst (ms.map V.int)) ∧ ms.length ≤ i + 1 ∧ (∀ e ∈ ms, 0 ≤ e ∧ e < (ts.length : Int)) ∧ WF (brN ts (cS sd)) g (rng (i + 1)) ≤ (ms.map g).sum ∧ (upd H7 Y (.lst (acc ++ [V.int (i : Nat)]))) Z = some (.lst (sd.map V.int)) ∧ (upd H7 Y (.lst (acc ++ [V.int (i : Nat)]))) R = some (.lst (bs.map V.int)) ∧ Deck (upd H7 Y (.lst (acc ++ [V.int (i : Nat)]))) d c ∧ Kp d c H (upd H7 Y (.lst (acc ++ [V.int (i : Nat)]))) := fun H7 hY7 hZ7 hR7 D7 K7 => by
          refine ⟨_, hY7, by rw [List.length_map]; exact small1000 (by omega), ms ++ [(i : Int)], by rw [upd_same, List.map_append]; rfl, by rw [List.length_append]; show ms.length + 1 ≤ _; omega, fun e he => ?_, ?_, by rw [upd_ne (Ne.symm YZ)]; exact hZ7, by rw [upd_ne (Ne.symm YR)]; exact hR7, D7.mut Yd.1 Yd.2, K7.mut nY0⟩
          · rcases List.mem_append.mp he with y | y
            · exact mr e y
            · rw [List.mem_singleton.mp y]
              omega
          · rw [wi, List.map_append, List.sum_append]
            show _ ≤ (ms.map g).sum + [g i].sum
            rw [List.sum_cons, List.sum_nil]
            split <;> omega
        cases hin : (if false = true then !inV (V.int (i : Nat)) (((rng ts.length).filter (brN ts (cS sd))).map V.int) else inV (V.int (i : Nat)) (((rng ts.length).filter (brN ts (cS sd))).map V.int)) with
        | true => exact ⟨_, rfl, add H6 hY6 hZ6 hR6 D6 K6⟩
        | false =>
          have nb : brN ts (cS sd) (i : Int) = false := by
            have hin : inV (V.int (i : Nat)) (((rng ts.length).filter (brN ts (cS sd))).map V.int) = false := hin
            rw [in82] at hin
            cases hb : brN ts (cS sd) (i : Int) with
            | false => rfl
            | true =>
              have : (i : Int) ∈ (rng ts.length).filter (brN ts (cS sd)) := List.mem_filter.mpr ⟨mem_rng.mpr ⟨by omega, by omega⟩, hb⟩
              rw [List.contains_iff_mem.mpr this] at hin
              cases hin
          refine ⟨.ref d, rfl, d, c, 6, rfl, D6, by decide, by decide, fun v H7 a7 b7 D7 K7 => ⟨rfl, _, rfl, ?_⟩⟩
          have hY7 := K7 _ _ Yd.1 Yd.2 hY6
          have hZ7 := K7 _ _ Zd.1 Zd.2 hZ6
          have hR7 := K7 _ _ Rd.1 Rd.2 hR6
          refine ite2 (fun _ => ⟨_, rfl, add H7 hY7 hZ7 hR7 D7 (K6.trans K7)⟩) (fun _ => ?_)
          refine ⟨ms, hY7, by omega, mr, ?_, hZ7, hR7, D7, K6.trans K7⟩
          rw [wi, nb, if_neg Bool.false_ne_true]
          omega
      rintro H5 ⟨ms, hY, lm, mr, wm, hZ5, hR5, D5, K5⟩
      have tk5 := K5.tk hD
      refine ⟨.ref R, rfl, .inl ⟨rfl, _, SqL.of hR5⟩, .ref Y, rfl, Y, rfl, ⟨_, SqL.of hY⟩, fun X nX => ?_⟩
      have Xd := D5.ned nX
      refine lc_list (xs := ms.map V.int) (fun i H' => H' X = some (.lst (((ms.take i).map g).map V.int)) ∧ Same H5 H') ⟨upd_same, same_new nX⟩ (fun i H' _ h => SqL.of (h.2 _ _ hY)) ?_ ?_
      · rintro i x H6 ej ⟨hX, s6⟩
        rw [List.getElem?_map] at ej
        obtain ⟨e, ee, rfl⟩ := Option.map_eq_some_iff.mp ej
        have er := mr e (List.mem_of_getElem? ee)
        have il := (List.getElem?_eq_some_iff.mp ee).1
        have tk6 := (K5.trans (Same.kp s6)).tk hD
        refine ⟨rfl, .ref wa, rfl, wa, _, 2, wt, rfl, rfl, SqT.of (tk6 _ _ hwa), rfl, .int e, rfl, ?_⟩
        unfold tNil
        show (spLWeight ([wt, .int e] ++ []) H6 _ _)
        refine ask_weight (hwt.tk tk6) er.1 er.2 ⟨_, hX, by rw [List.length_map, List.length_map, List.length_take]; exact small1000 (by omega), ?_, Same.mut s6 nX⟩
        rw [upd_same, List.take_add_one, ee, List.map_append, List.map_append]
        rfl
      rintro H6 ⟨hX, s6⟩
      rw [List.length_map, List.take_length] at hX
      refine ⟨X, _, rfl, SqL.of hX, ?_⟩
      have hR6 := s6 _ _ hR5
      refine ⟨R, _, .int (ms.map g).sum, rfl, rfl, hR6, by rw [List.length_map]; exact small1000 (by omega), ?_⟩
      refine ⟨_, _, _, bs ++ [(ms.map g).sum], rfl, by rw [upd_same, List.map_append]; rfl, by rw [List.length_append, lb]; rfl, fun b hb => ?_, (D5.same s6).mut Rd.1 Rd.2, (K5.trans (Same.kp s6)).mut nR0⟩
      rcases List.mem_append.mp hb with y | y
      · exact hbs b y
      · rw [List.mem_singleton.mp y]
        exact ⟨cS sd, wm⟩
    · rintro σ' H3 ⟨y3, y4, y6, bs, rfl, hR, lb, hbs, D3, K3⟩
      exact ⟨.ref R, rfl, q R bs H3 hR (by omega) hbs Rd D3 K3⟩
set_option maxHeartbeats 8000000 in
theorem ok_l_is_bound {f : Addr} {fd : FuncData} {Ps : List Addr} (dp : Nat) (F : Fun K "_law_is_bound" "_law_is_bound" s_l_is_bound f fd) (m_min : mg "min" = none) (D_l_told : Df P w K mg base (24 + 2 * dp) "_law_told" ["_law_world_here", "_law_thing"] (spTold Ps dp)) : FnOk P w K mg base CX0 (24 + 2 * dp + 1) f fd ["_law_world_here", "_law_some", "_law_bounds_here"] (spIsBound Ps dp) := by
  obtain ⟨f_l_told, fd_l_told, G_l_told, g_l_told, k_l_told, b_l_told⟩ := D_l_told
  refine F.ok sc_l_is_bound (fun vs H Q E h => ?_) (fun cdv A outer s H vs Q E hr h => ?_)
  · obtain ⟨wv, v, B, n, ts, g, bs, rfl, _⟩ := h
    rfl
  · obtain ⟨wv, v, B, n, ts, g, bs, rfl, hW, ok, l120, hpv, hB, b0, hbs, gp, hT, q⟩ := h
    refine ⟨_, (pss_cons (ps_set (i := 3) sc_l_is_bound.nd rfl (.inl rfl) (pe_call G_l_told (hr.mono (by omega)) (by rfl) g_l_told k_l_told b_l_told .nil pass0 (pa_cons (pv 0) (pa_cons (pv 1) pa_nil))))
      (pss_cons (ps_if (PW.pt (pw_or (pt_cmpR op_eq (pv 3) pe_str (nomark _)) (pw_or1 (pt_cmpR op_ne (pe_call G_l_told (hr.mono (by omega)) (by rfl) g_l_told k_l_told b_l_told .nil pass0 (pa_cons (pv 0) (pa_cons (pv 1) pa_nil))) (pv 3) (nomark _)))))
        (pss_one (ps_ret pe_bl))
        pss_nil)
      (pss_one (ps_ret (pe_or (pe_cmpR op_isN (pv 3) pe_non (nomark _)) (pe_one (pe_chain op_le op_le pe_int (pv 3) (pe_callB (cr_min rfl) (by rfl) m_min (by decide +kernel) (pa_cons (pv 2) pa_nil))))))))), ?_⟩
    refine ⟨wv, rfl, v, rfl, wv, v, n, ts, g, rfl, hW, ok, l120, hpv, hT, fun H1 k1 => ?_⟩
    have T1 : Tabs Ps H1 := k1.tab
    have pv1 := hpv.stay (StayP.kt k1 hT)
    rw [← shown_stay hpv (StayP.kt k1 hT)]
    have le : ∀ k, shownS (dp + 1) H1 n ts (limW g ts.length) (rng ts.length) v = some k → 0 ≤ k ∧ ∀ b ∈ bs, k ≤ b := fun k hk => by
      have h := fun (c : Int → Bool) => shown_le (c := c) (F := brN ts c) (dp + 1) (Nat.le_refl _) (rng_nd49 _) (fun e he => mem_rng.mp he) gp hk
      refine ⟨(h fun _ => false).1, fun b hb => ?_⟩
      obtain ⟨c, hc⟩ := hbs b hb
      exact Int.le_trans ((h c).2 (good_brN (n := n) ts c)) hc
    have hB1 := k1.lst hT hB
    generalize ho : shownS (dp + 1) H1 n ts (limW g ts.length) (rng ts.length) v = o at le
    cases o with
    | none =>
      refine ⟨.non, rfl, rfl, _, rfl, wv, rfl, v, rfl, ?_⟩
      unfold tNil
      show (spTold Ps dp ([wv, v] ++ []) H1 _ _)
      refine ⟨wv, v, n, ts, g, rfl, hW.tk (k1.tk hT), ok, l120, pv1, T1, fun H2 k2 => ?_⟩
      rw [ho]
      refine ⟨.non, rfl, rfl, _, rfl, ?_⟩
      exact ⟨.non, rfl, rfl, _, rfl, q H2 (k1.trans k2)⟩
    | some k =>
      obtain ⟨k0, kb⟩ := le k rfl
      refine ⟨.int k, rfl, rfl, _, rfl, wv, rfl, v, rfl, ?_⟩
      unfold tNil
      show (spTold Ps dp ([wv, v] ++ []) H1 _ _)
      refine ⟨wv, v, n, ts, g, rfl, hW.tk (k1.tk hT), ok, l120, pv1, T1, fun H2 k2 => ?_⟩
      rw [ho]
      refine ⟨.int k, rfl, rfl, _, rfl, ?_⟩
      rw [decide_eq_true (show optV (some k) = V.int k from rfl)]
      have hB2 := (k1.trans k2).lst hT hB
      refine ⟨.int k, rfl, rfl, _, rfl, .int k, rfl, 0, k, rfl, rfl, true, congrArg V.bl (decide_eq_true k0), ?_⟩
      refine ⟨.ref B, rfl, B, bs, rfl, SqL.of hB2, b0, fun m mm ml => ⟨k, m, rfl, rfl, ?_⟩⟩
      show Q (V.bl (decide (k ≤ m))) H2
      rw [decide_eq_true (kb m mm)]
      exact q H2 (k1.trans k2)
end
/-! ### papers: a part put in -/
section
variable {P : Program} {w : World} {K : PySem.W.Frag} {mg : Str → Option Value} {base : Heap}
set_option maxHeartbeats 8000000 in
theorem ok_l_put_step (W m : Nat) {f : Addr} {fd : FuncData} (F : Fun K "_law_put" "_law_put" s_l_put f fd) (D_l_put : Df P w K mg base (1 + m) "_law_put" ["_law_thing", "_law_spot", "_law_part_here"] (spPut W m)) : FnOk P w K mg base CX0 (1 + m + 1) f fd ["_law_thing", "_law_spot", "_law_part_here"] (spPut W (m + 1)) := by
  obtain ⟨f_l_put, fd_l_put, G_l_put, g_l_put, k_l_put, b_l_put⟩ := D_l_put
  refine F.ok sc_l_put (fun vs H Q E h => ?_) (fun cdv A outer s H vs Q E hr h => ?_)
  · obtain ⟨v, part, b, ks, p, d, e, D, s, r, rfl, _⟩ := h
    rfl
  · obtain ⟨v, part, b, ks, p, d, e, D, s, r, rfl, hb, kl, hP, hW, hv, hp, dD, eD, q⟩ := h
    refine ⟨_, (pss_cons (ps_if (pt_cmpR (op_eqTE hr.units0) (pv 1) (pe_tup pa_nil) (nomark _))
        (pss_one (ps_ret (pv 2)))
        pss_nil)
      (pss_cons (ps_set (i := 3) sc_l_put.nd rfl (.inl rfl) (pe_ix ix_tup (pv 1) pe_int (fun _ _ => rfl)))
      (pss_one (ps_ret (pe_op op_catU (pe_op op_catU (pe_slice sl_tupU (pv 0) po_none (po_some (pv 3))) (pe_tup (pa_cons (pe_call G_l_put (hr.mono (by omega)) (by rfl) g_l_put k_l_put b_l_put .nil pass0 (pa_cons (pe_ix ix_tup (pv 0) (pv 3) (fun _ _ => rfl)) (pa_cons (pe_slice sl_tupU (pv 1) (po_some pe_int) po_none) (pa_cons (pv 2) pa_nil)))) pa_nil))) (pe_slice sl_tupU (pv 0) (po_some (pe_op op_add (pv 3) pe_int)) po_none)))))), ?_⟩
    refine ⟨.ref b, rfl, Nat.zero_le _, fun e0 ne => ?_⟩
    have s1 := same_new (o := .tup []) ne
    refine ⟨b, e0, _, rfl, rfl, SqT.of (s1 _ _ hb), SqT.of upd_same, _, rfl, ?_⟩
    have tk1 := Same.tk s1
    have hb1 := s1 _ _ hb
    have hP1 := hP.tk tk1
    have hv1 := hv.tk tk1
    have hp1 := hp.tk tk1
    generalize upd H e0 (.tup []) = H1 at s1 hb1 hP1 hv1 hp1
    clear tk1 ne hb hP hv hp
    cases ks with
    | nil => exact ⟨part, rfl, q part H1 ((hp1.mono (by omega)).more (by omega)) s1⟩
    | cons k ks =>
    rw [List.length_cons] at kl eD
    obtain ⟨a, xs, x, rfl, ha, k0, hx, hPx⟩ := hP1
    obtain ⟨i, rfl⟩ : ∃ i : Nat, k = (i : Int) := ⟨k.toNat, by omega⟩
    rw [Int.toNat_natCast] at hx
    have il := (List.getElem?_eq_some_iff.mp hx).1
    cases d with
    | zero => rcases hv1.1 with ⟨_, h⟩ | ⟨_, h, _⟩ <;> cases h
    | succ d =>
    obtain ⟨D, rfl⟩ : ∃ z, D = z + 1 := ⟨D - 1, by omega⟩
    obtain ⟨m, rfl⟩ : ∃ z, m = z + 1 := ⟨m - 1, by omega⟩
    rcases hv1 with h | ⟨a', xs', ss, e1, ha', lx, hss, hsum⟩
    · rcases h.1 with ⟨_, h⟩ | ⟨_, h, _⟩ <;> cases h
    cases e1
    rw [ha] at ha'
    cases ha'
    obtain ⟨sk, esk, hsk⟩ := Paired.at hss hx
    refine ⟨.ref b, rfl, b, _, 0, .int i, rfl, rfl, SqT.of hb1, atI_nat (j := 0) (xs := ((i : Int) :: ks).map V.int) rfl, ?_⟩
    refine ⟨.ref a, rfl, .int i, rfl, i, rfl, a, _, rfl, ha, fun r1 H2 s2 h2 => ?_⟩
    rw [cut_take (by omega)] at h2
    refine ⟨.ref a, rfl, .int i, rfl, a, xs, i, x, rfl, rfl, SqT.of (s2 _ _ ha), atI_nat hx, .ref b, rfl, 1, rfl, b, _, rfl, s2 _ _ hb1, fun r2 H3 s3 h3 => ?_⟩
    have eks : cutV ((((i : Int) :: ks)).map V.int) (some 1) none = ks.map V.int := (cut_dropP (k := 1) (by simp)).trans rfl
    rw [eks] at h3
    have s23 := s2.trans s3
    have tk3 := Same.tk s23
    refine ⟨part, rfl, x, part, r2, ks, p, d, e, D, sk, r, rfl, h3, by omega, hPx.tk tk3, hW, hsk.tk tk3, hp1.tk tk3, by omega, by omega, fun v' H4 hv' s4 => ⟨by show 1 ≤ sizeLine; decide, fun t nt => ?_⟩⟩
    have s5 := same_new (o := .tup [v']) nt
    have h5 := upd_same (H := H4) (a := t) (o := .tup [v'])
    have hv5 := hv'.tk (Same.tk s5)
    have s25 := s23.trans (s4.trans s5)
    have h25 := s5 _ _ (s4 _ _ (s3 _ _ h2))
    generalize upd H4 t (.tup [v']) = H5 at h5 hv5 s25 h25
    clear s23 tk3 s4 s5 nt
    refine ⟨r1, t, _, [v'], rfl, rfl, h25, h5, by rw [List.length_take, List.length_singleton]; omega, fun c1 H6 s6 hc1 => ?_⟩
    have s26 := s25.trans s6
    refine ⟨.ref a, rfl, .int i, rfl, _, _, rfl, rfl, (i : Int) + 1, rfl, a, _, rfl, s26 _ _ ha, fun r3 H7 s7 h7 => ?_⟩
    rw [show (i : Int) + 1 = ((i + 1 : Nat) : Int) by omega, cut_dropP (by omega)] at h7
    have s27 := s26.trans s7
    refine ⟨c1, r3, _, _, rfl, rfl, s7 _ _ hc1, h7, by rw [List.length_append, List.length_take, List.length_singleton, List.length_drop]; omega, fun c2 H8 s8 hc2 => ?_⟩
    have s28 := s27.trans s8
    have tk8 := Same.tk s28
    have tk58 := Same.tk ((s6.trans s7).trans s8)
    have h8 : Paired (fun x t => TuN W D H8 x t) xs ss := Paired.mono (fun _ _ z => (z.tk tk8).mono (by omega)) hss
    exact q _ H8 (.tup hc2 (by rw [List.length_append, List.length_append, List.length_take, List.length_singleton, List.length_drop]; omega) (Paired.app2F (Paired.app2F (Paired.takeF i h8) (.cons (hv5.tk tk58) .nil)) (Paired.dropF (i + 1) h8)) (by rw [sum_put (k := i) esk]; omega)) (s1.trans s28)
theorem ok_l_put {f : Addr} {fd : FuncData} (W : Nat) (F : Fun K "_law_put" "_law_put" s_l_put f fd) (gA : mg "_law_put" = some (.ref f)) (bA : Binds K fd ["_law_thing", "_law_spot", "_law_part_here"] []) :
    ∀ m : Nat, FnOk P w K mg base CX0 (1 + m) f fd ["_law_thing", "_law_spot", "_law_part_here"] (spPut W m)
  | 0 => ⟨fun vs H Q E h => h.elim, fun B out z H ar us vs Q E _ _ _ _ h => h.elim⟩
  | m + 1 => ok_l_put_step W m F ⟨f, fd, ok_l_put W F gA bA m, gA, F.kp, bA⟩
/-- things of any width -/
def spPutA (m : Nat) : Sp := fun vs H Q E => ∃ W, spPut W m vs H Q E
theorem ok_l_putA {f : Addr} {fd : FuncData} (F : Fun K "_law_put" "_law_put" s_l_put f fd) (gA : mg "_law_put" = some (.ref f)) (bA : Binds K fd ["_law_thing", "_law_spot", "_law_part_here"] []) (m : Nat) : FnOk P w K mg base CX0 (1 + m) f fd ["_law_thing", "_law_spot", "_law_part_here"] (spPutA m) :=
  ⟨fun vs H Q E h => by
    obtain ⟨W, h⟩ := h
    exact (ok_l_put (P := P) (w := w) (base := base) W F gA bA m).1 vs H Q E h, fun B out z H ar us vs Q E a b c d h => by
    obtain ⟨W, h⟩ := h
    exact (ok_l_put (P := P) (w := w) (base := base) W F gA bA m).2 B out z H ar us vs Q E a b c d h⟩
end
/-! ### papers: a part spoiled -/
theorem TuN.wide {W W' : Nat} (w : W ≤ W') : ∀ {d : Nat} {H : Hp} {v : V} {s : Nat}, TuN W d H v s → TuN W' d H v s := by
  have leaf : ∀ {v : V}, LfV W v → LfV W' v := fun h => by
    rcases h with h | ⟨s, e, l⟩
    · exact .inl h
    · exact .inr ⟨s, e, Nat.le_trans l w⟩
  intro d
  induction d with
  | zero => intro H v s h; exact ⟨leaf h.1, h.2⟩
  | succ d ih =>
    intro H v s h
    rcases h with h | ⟨a, xs, ss, e, h1, l, h2, h3⟩
    · exact .inl ⟨leaf h.1, h.2⟩
    · exact .inr ⟨a, xs, ss, e, h1, Nat.le_trans l w, Paired.mono (fun _ _ z => ih z) h2, h3⟩
theorem atStrs {B : Nat} (xs : List Str) (h : ∀ x ∈ xs, x.length ≤ B) {i : Int} (h0 : 0 ≤ i) (h1 : i < (xs.length : Int)) : ∃ f, atI (xs.map V.str) i = some (.str f) ∧ f.length ≤ B := by
  obtain ⟨u, e1, e2⟩ := getI (xs := xs.map V.str) h0 (by rw [List.length_map]; exact h1)
  rw [List.getElem?_map] at e2
  obtain ⟨z, ez, rfl⟩ := Option.map_eq_some_iff.mp e2
  exact ⟨z, e1, h z (List.mem_of_getElem? ez)⟩
theorem cut_dropA (xs : List V) (k : Nat) : cutV xs (some (k : Int)) none = xs.drop k := by
  unfold cutV
  rw [HT.sIx_none, HT.sIx_nat]
  by_cases h : k ≤ xs.length
  · rw [Nat.min_eq_left h, List.take_of_length_le (by rw [List.length_drop]; omega)]
  · rw [Nat.min_eq_right (by omega), List.drop_length, List.drop_of_length_le (by omega)]
    simp
theorem cut_one {xs : List V} {a : Nat} (h : a ≤ xs.length) : cutV xs (some (a : Int)) (some ((a + 1 : Nat) : Int)) = (xs.drop a).take 1 := by
  unfold cutV
  rw [HT.sIx_nat, HT.sIx_nat, Nat.min_eq_left h]
  by_cases h2 : a + 1 ≤ xs.length
  · rw [Nat.min_eq_left h2, show a + 1 - a = 1 by omega]
  · rw [Nat.min_eq_right (by omega), List.drop_of_length_le (by omega)]
    simp
theorem Paired.revF {α β : Type} {R : α → β → Prop} : ∀ {xs : List α} {ys : List β}, Paired R xs ys → Paired R xs.reverse ys.reverse
  | _, _, .nil => .nil
  | _, _, .cons a t => by
    rw [List.reverse_cons, List.reverse_cons]
    exact Paired.app2F (Paired.revF t) (.cons a .nil)
theorem sum_td (ss : List Nat) (a : Nat) : (ss.take a).sum + (ss.drop a).sum = ss.sum := by
  rw [← List.sum_append, List.take_append_drop]
theorem sum_tk (ss : List Nat) (a : Nat) : (ss.take a).sum ≤ ss.sum := by have := sum_td ss a; omega
theorem sum_dr (ss : List Nat) (a : Nat) : (ss.drop (a + 1)).sum ≤ (ss.drop a).sum := by
  have := sum_td (ss.drop a) 1
  rw [List.drop_drop] at this
  omega
theorem sum_rev : ∀ ss : List Nat, ss.reverse.sum = ss.sum
  | [] => rfl
  | s :: ss => by rw [List.reverse_cons, List.sum_append, sum_rev ss, List.sum_cons]; simp; omega
theorem cutS_to (z : Str) (k : Nat) : (cutS z none (some (k : Int))).length ≤ k := by
  unfold cutS
  rw [HT.sIx_none, HT.sIx_nat]
  show (List.toArray _).size ≤ k
  rw [List.size_toArray, List.length_take]
  omega
theorem cutS_from (z : Str) (k : Nat) : (cutS z (some (k : Int)) none).length ≤ z.length - k := by
  unfold cutS
  rw [HT.sIx_none, HT.sIx_nat]
  show (List.toArray _).size ≤ z.length - k
  rw [List.size_toArray, List.length_take]
  omega
def spSpoiled : Sp := fun vs H Q _ => ∃ (d c : Addr) (v : V) (b : Addr) (ks : List Int) (p : V) (W e D s t : Nat), vs = [.ref d, v, .ref b] ∧ Deck H d c ∧ H b = some (.tup (ks.map V.int)) ∧ ks.length ≤ 14 ∧ Pth H v ks p ∧ 10 ≤ W ∧ W ≤ 500 ∧ TuN W D H v s ∧ TuN W e H p t ∧ e + ks.length ≤ D ∧
  ∀ v' H', TuN (W + 1) D H' v' (s + 2 * t) → Deck H' d c → Kp d c H H' → Q v' H'
section
variable {P : Program} {w : World} {K : PySem.W.Frag} {mg : Str → Option Value} {base : Heap}
set_option maxHeartbeats 8000000 in
theorem ok_l_spoiled {f : Addr} {fd : FuncData} (F : Fun K "_law_spoiled" "_law_spoiled" s_l_spoiled f fd) (M : Free mg) (m_max : mg "max" = none) (D_l_part : Df P w K mg base 1 "_law_part" ["_law_thing", "_law_spot"] spPart) (D_l_draw : Df P w K mg base 1 "_law_draw" ["_law_feed_here", "_law_most"] spDraw) (D_l_put : Df P w K mg base 16 "_law_put" ["_law_thing", "_law_spot", "_law_part_here"] (spPutA 15)) : FnOk P w K mg base CX0 17 f fd ["_law_feed_here", "_law_thing", "_law_spot"] spSpoiled := by
  obtain ⟨f_l_part, fd_l_part, G_l_part, g_l_part, k_l_part, b_l_part⟩ := D_l_part
  obtain ⟨f_l_draw, fd_l_draw, G_l_draw, g_l_draw, k_l_draw, b_l_draw⟩ := D_l_draw
  obtain ⟨f_l_put, fd_l_put, G_l_put, g_l_put, k_l_put, b_l_put⟩ := D_l_put
  refine F.ok sc_l_spoiled (fun vs H Q E h => ?_) (fun cdv A outer s H vs Q E hr h => ?_)
  · obtain ⟨d, c, v, b, ks, p, W, e, D, s, t, rfl, _⟩ := h
    rfl
  · obtain ⟨d, c, v, b, ks, p, W, e, D, s, t, rfl, Dk, hb, lks, hP, W10, W500, hv, hpt, eD, q⟩ := h
    refine ⟨_, (pss_cons (ps_set (i := 3) sc_l_spoiled.nd rfl (.inl rfl) (pe_call G_l_part (hr.mono (by decide)) (by rfl) g_l_part k_l_part b_l_part .nil pass0 (pa_cons (pv 1) (pa_cons (pv 2) pa_nil))))
      (pss_cons (ps_set (i := 4) sc_l_spoiled.nd rfl (.inl rfl) (pe_call G_l_draw (hr.mono (by decide)) (by rfl) g_l_draw k_l_draw b_l_draw .nil pass0 (pa_cons (pv 0) (pa_cons pe_int pa_nil))))
      (pss_cons (ps_if (pt_val (pe_callB call_isi (by rfl) M.isinstance (by decide +kernel) (pa_cons (pv 3) (pa_cons (pe_bltn (v := .ty "int") (by rfl) M.int (by decide +kernel) rfl) pa_nil))))
        (pss_one (ps_ret (pe_call G_l_put (hr.mono (by decide)) (by rfl) g_l_put k_l_put b_l_put .nil pass0 (pa_cons (pv 1) (pa_cons (pv 2) (pa_cons (pe_ix ix_list (pe_lst (pa_cons (pe_op op_add (pv 3) pe_int) (pa_cons (pe_op op_sub (pv 3) pe_int) (pa_cons (pe_op op_sub (pe_op op_sub pe_int pe_int) (pv 3)) (pa_cons (pe_call G_l_draw (hr.mono (by decide)) (by rfl) g_l_draw k_l_draw b_l_draw .nil pass0 (pa_cons (pv 0) (pa_cons pe_int pa_nil))) pa_nil))))) (pv 4) (fun _ _ => rfl)) pa_nil))))))
        pss_nil)
      (pss_cons (ps_if (pt_val (pe_callB call_isi (by rfl) M.isinstance (by decide +kernel) (pa_cons (pv 3) (pa_cons (pe_bltn (v := .ty "str") (by rfl) M.str (by decide +kernel) rfl) pa_nil))))
        (pss_cons (ps_set (i := 5) sc_l_spoiled.nd rfl (.inl rfl) pe_str)
        (pss_cons (ps_set (i := 6) sc_l_spoiled.nd rfl (.inl rfl) (pe_call G_l_draw (hr.mono (by decide)) (by rfl) g_l_draw k_l_draw b_l_draw .nil pass0 (pa_cons (pv 0) (pa_cons (pe_callB (call_max2 rfl) (by rfl) m_max (by decide +kernel) (pa_cons pe_int (pa_cons (pe_callB call_len_str (by rfl) M.len PySem.boot_len (pa_cons (pv 3) pa_nil)) pa_nil))) pa_nil))))
        (pss_cons (ps_set (i := 7) sc_l_spoiled.nd rfl (.inl rfl) (pe_ix ix_str (pv 5) (pe_call G_l_draw (hr.mono (by decide)) (by rfl) g_l_draw k_l_draw b_l_draw .nil pass0 (pa_cons (pv 0) (pa_cons pe_int pa_nil))) (fun _ _ => rfl)))
        (pss_cons (ps_set (i := 8) sc_l_spoiled.nd rfl (.inl rfl) (pe_lst (pa_cons (pe_op op_add_str (pe_op op_add_str (pe_slice sl_str (pv 3) po_none (po_some (pv 6))) (pv 7)) (pe_slice sl_str (pv 3) (po_some (pe_op op_add (pv 6) pe_int)) po_none)) (pa_cons (pe_op op_add_str (pe_slice sl_str (pv 3) po_none (po_some (pv 6))) (pe_slice sl_str (pv 3) (po_some (pe_op op_add (pv 6) pe_int)) po_none)) (pa_cons (pe_op op_add_str (pe_op op_add_str (pe_slice sl_str (pv 3) po_none (po_some (pv 6))) (pv 7)) (pe_slice sl_str (pv 3) (po_some (pv 6)) po_none)) pa_nil)))))
        (pss_one (ps_ret (pe_call G_l_put (hr.mono (by decide)) (by rfl) g_l_put k_l_put b_l_put .nil pass0 (pa_cons (pv 1) (pa_cons (pv 2) (pa_cons (pe_ix ix_list (pe_op op_cat (pv 8) (pe_lst (pa_cons (pe_ix ix_list (pe_lst (pa_cons pe_str (pa_cons pe_str (pa_cons pe_str (pa_cons pe_str (pa_cons pe_str pa_nil)))))) (pe_call G_l_draw (hr.mono (by decide)) (by rfl) g_l_draw k_l_draw b_l_draw .nil pass0 (pa_cons (pv 0) (pa_cons pe_int pa_nil))) (fun _ _ => rfl)) pa_nil))) (pv 4) (fun _ _ => rfl)) pa_nil))))))))))
        pss_nil)
      (pss_cons (ps_set (i := 6) sc_l_spoiled.nd rfl (.inl rfl) (pe_call G_l_draw (hr.mono (by decide)) (by rfl) g_l_draw k_l_draw b_l_draw .nil pass0 (pa_cons (pv 0) (pa_cons (pe_op op_add (pe_callB call_len_seq (by rfl) M.len PySem.boot_len (pa_cons (pv 3) pa_nil)) pe_int) pa_nil))))
      (pss_cons (ps_if (pt_cmpR op_eq (pv 4) pe_int (nomark _))
        (pss_one (ps_ret (pe_call G_l_put (hr.mono (by decide)) (by rfl) g_l_put k_l_put b_l_put .nil pass0 (pa_cons (pv 1) (pa_cons (pv 2) (pa_cons (pe_op op_catU (pe_slice sl_tupU (pv 3) po_none (po_some (pv 6))) (pe_slice sl_tupU (pv 3) (po_some (pe_op op_add (pv 6) pe_int)) po_none)) pa_nil))))))
        pss_nil)
      (pss_cons (ps_if (pt_cmpR op_eq (pv 4) pe_int (nomark _))
        (pss_one (ps_ret (pe_call G_l_put (hr.mono (by decide)) (by rfl) g_l_put k_l_put b_l_put .nil pass0 (pa_cons (pv 1) (pa_cons (pv 2) (pa_cons (pe_op op_catU (pe_op op_catU (pe_slice sl_tupU (pv 3) po_none (po_some (pv 6))) (pe_slice sl_tupU (pv 3) (po_some (pv 6)) (po_some (pe_op op_add (pv 6) pe_int)))) (pe_slice sl_tupU (pv 3) (po_some (pv 6)) po_none)) pa_nil))))))
        pss_nil)
      (pss_cons (ps_if (pt_cmpR op_eq (pv 4) pe_int (nomark _))
        (pss_one (ps_ret (pe_call G_l_put (hr.mono (by decide)) (by rfl) g_l_put k_l_put b_l_put .nil pass0 (pa_cons (pv 1) (pa_cons (pv 2) (pa_cons (pe_op op_catU (pe_slice sl_tupU (pv 3) po_none (po_some (pv 6))) (pe_revT (pe_slice sl_tupU (pv 3) (po_some (pv 6)) po_none))) pa_nil))))))
        pss_nil)
      (pss_one (ps_ret (pe_call G_l_put (hr.mono (by decide)) (by rfl) g_l_put k_l_put b_l_put .nil pass0 (pa_cons (pv 1) (pa_cons (pv 2) (pa_cons (pe_op op_catU (pe_slice sl_tupU (pv 3) (po_some (pv 6)) po_none) (pe_slice sl_tupU (pv 3) po_none (po_some (pv 6)))) pa_nil)))))))))))))), ?_⟩
    have kind : ∀ {H' : Hp} {v : V} {e s : Nat}, TuN W e H' v s → Kn H' v := fun h => (h.tut (by omega)).pap.kn
    refine ⟨v, rfl, .ref b, rfl, v, b, ks, p, rfl, hb, hP, ?_⟩
    refine ⟨.ref d, rfl, d, c, 4, rfl, Dk, by decide, by decide, fun w H1 w0 w1 D1 K1 => ?_⟩
    have tk1 := K1.tk Dk
    have hb1 := tk1 _ _ hb
    have hP1 := hP.tk tk1
    have hv1 := hv.tk tk1
    have hp1 := hpt.tk tk1
    have tp := hpt.pos
    clear hb hP hv hpt tk1
    obtain ⟨t1, i1, j1⟩ := kn_int (K := K) (kind hp1)
    refine ⟨p, rfl, p, _, t1, _, _, rfl, .ty "int", i1, j1, _, rfl, ?_⟩
    have leafCase : LfV W p ∨ ∃ (a : Addr) (xs : List V) (ss : List Nat) (e' : Nat), p = .ref a ∧ H1 a = some (.tup xs) ∧ xs.length ≤ W ∧ Paired (fun x t => TuN W e' H1 x t) xs ss ∧ 1 + ss.sum ≤ t ∧ e = e' + 1 := by
      cases e with
      | zero => exact .inl hp1.1
      | succ e =>
        rcases hp1 with h | ⟨a, xs, ss, e1, h1, l, h2, h3⟩
        · exact .inl h.1
        · exact .inr ⟨a, xs, ss, e, e1, h1, l, h2, h3, rfl⟩
    rcases leafCase with (⟨i, rfl⟩ | ⟨z, rfl, lz⟩) | ⟨va, rs, ss, e, rfl, hva, lrs, hss, hsum, rfl⟩
    · refine ⟨v, rfl, .ref b, rfl, .int i, rfl, _, _, rfl, rfl, .int i, rfl, _, _, rfl, rfl, _, _, rfl, rfl, .int i, rfl, _, _, rfl, rfl, .ref d, rfl, d, c, 12, rfl, D1, by decide, by decide, fun z H2 z0 z1 D2 K2 => ⟨by show 4 ≤ sizeLine; decide, fun L nL => ?_⟩⟩
      obtain ⟨u, eu⟩ := atInts [i + 1, i - 1, 0 - 1 - i, z] w0 (show w < 4 from w1)
      have sL := same_new (o := .lst [.int (i + 1), .int (i - 1), .int (0 - 1 - i), .int z]) nL
      have tk2 := (K2.tk D1).trans (Same.tk sL)
      refine ⟨.int w, rfl, L, _, w, .int u, rfl, rfl, SqL.of upd_same, eu, W + 1, v, .int u, b, ks, .int i, D, 0, D, s, 2 * t, rfl, tk2 _ _ hb1, lks, hP1.tk tk2, by omega, (hv1.tk tk2).wide (by omega), ⟨.inl ⟨u, rfl⟩, by omega⟩, Nat.le_refl _, by omega, fun v' H3 hv' s3 => ?_⟩
      exact q v' H3 hv' ((D2.same sL).same s3) (((K1.trans K2).trans (Same.kp sL)).trans (Same.kp s3))
    · obtain ⟨t2, i2, j2⟩ := kn_str49 (K := K) (H := H1) (v := .str z) trivial
      refine ⟨.str z, rfl, .str z, _, t2, _, _, rfl, .ty "str", i2, j2, _, rfl, ?_⟩
      have small : ∀ {n : Nat}, n ≤ 2000 → n ≤ sizeLine := fun h => Nat.le_trans h (by decide)
      have lmax : (0 : Int) < (if (z.length : Int) > 1 then (z.length : Int) else 1) ∧ (if (z.length : Int) > 1 then (z.length : Int) else 1) ≤ 500 := by
        split <;> omega
      refine ⟨.ref d, rfl, .str z, rfl, z, rfl, small (by omega), _, _, rfl, d, c, _, rfl, D1, lmax.1, nb120 (by omega) (by omega), fun a H2 a0 a1 D2 K2 => ?_⟩
      refine ⟨.str _, rfl, .ref d, rfl, d, c, 26, rfl, D2, by decide, by decide, fun y H3 y0 y1 D3 K3 => ?_⟩
      obtain ⟨sg, esg, _⟩ := getI (xs := (Str.ofString "abcdefghijklmnopqrstuvwxyz").cps.toList) (i := y) y0 (show y < 26 from y1)
      refine ⟨_, y, sg, rfl, rfl, by decide, esg, ?_⟩
      obtain ⟨a, rfl⟩ : ∃ k : Nat, a = (k : Int) := ⟨a.toNat, by omega⟩
      have al : a ≤ z.length := by
        have : (a : Int) < if (z.length : Int) > 1 then (z.length : Int) else 1 := a1
        split at this <;> omega
      have la : ∀ x y : Str, (x ++ y).length = x.length + y.length := fun x y => PySem.Str.length_append x y
      have lA := cutS_to z a
      have lB : (cutS z (some ((a : Int) + 1)) none).length ≤ z.length - (a + 1) := cutS_from z (a + 1)
      have lC := cutS_from z a
      have lG : (⟨#[sg]⟩ : Str).length = 1 := rfl
      have hz : z.length ≤ sizeLine := small (by omega)
      generalize (⟨#[sg]⟩ : Str) = G at lG
      refine ⟨.str z, rfl, .int a, rfl, a, rfl, z, rfl, hz, .str G, rfl, _, _, rfl, rfl, small (by omega), .str z, rfl, .int a, rfl, _, _, rfl, rfl, (a : Int) + 1, rfl, z, rfl, hz, _, _, rfl, rfl, small (by rw [la]; omega), ?_⟩
      refine ⟨.str z, rfl, .int a, rfl, a, rfl, z, rfl, hz, .str z, rfl, .int a, rfl, _, _, rfl, rfl, (a : Int) + 1, rfl, z, rfl, hz, _, _, rfl, rfl, small (by omega), ?_⟩
      refine ⟨.str z, rfl, .int a, rfl, a, rfl, z, rfl, hz, .str G, rfl, _, _, rfl, rfl, small (by omega), .str z, rfl, .int a, rfl, a, rfl, z, rfl, hz, _, _, rfl, rfl, small (by rw [la]; omega), by show 3 ≤ sizeLine; decide, fun L nL => ?_⟩
      obtain ⟨X1, e1⟩ : ∃ X, X = cutS z none (some (a : Int)) ++ G ++ cutS z (some ((a : Int) + 1)) none := ⟨_, rfl⟩
      obtain ⟨X2, e2⟩ : ∃ X, X = cutS z none (some (a : Int)) ++ cutS z (some ((a : Int) + 1)) none := ⟨_, rfl⟩
      obtain ⟨X3, e3⟩ : ∃ X, X = cutS z none (some (a : Int)) ++ G ++ cutS z (some (a : Int)) none := ⟨_, rfl⟩
      have l1 : X1.length ≤ W + 1 := by rw [e1, la, la]; omega
      have l2 : X2.length ≤ W + 1 := by rw [e2, la]; omega
      have l3 : X3.length ≤ W + 1 := by rw [e3, la, la]; omega
      rw [← e1, ← e2, ← e3]
      have sL := same_new (o := .lst [.str X1, .str X2, .str X3]) nL
      have hL := upd_same (H := H3) (a := L) (o := .lst [.str X1, .str X2, .str X3])
      obtain ⟨Ld, Lc⟩ := D3.ned nL
      have D4 := D3.same sL
      have tk4 := ((K2.tk D1).trans (K3.tk D2)).trans (Same.tk sL)
      have K4 := ((K1.trans K2).trans K3).trans (Same.kp sL)
      generalize upd H3 L (.lst [.str X1, .str X2, .str X3]) = H4 at sL hL D4 tk4 K4
      refine ⟨v, rfl, .ref b, rfl, .ref L, rfl, by show 5 ≤ sizeLine; decide, fun M' nM => ?_⟩
      have sM := same_new (o := .lst [.str "rings", .str "split", .str "case", .str "case ", .str " rings"]) nM
      have hM := upd_same (H := H4) (a := M') (o := .lst [.str "rings", .str "split", .str "case", .str "case ", .str " rings"])
      obtain ⟨Md, Mc⟩ := D4.ned nM
      refine ⟨.ref d, rfl, d, c, 5, rfl, D4.same sM, by decide, by decide, fun y2 H5 u0 u1 D5 K5 => ?_⟩
      obtain ⟨u, eu, lu⟩ := atStrs (B := 10) [Str.ofString "rings", Str.ofString "split", Str.ofString "case", Str.ofString "case ", Str.ofString " rings"] (by decide) u0 (show y2 < 5 from u1)
      refine ⟨M', _, y2, .str u, rfl, rfl, SqL.of (K5 _ _ Md Mc hM), eu, by show 1 ≤ sizeLine; decide, fun Q' nQ => ?_⟩
      have sQ := same_new (o := .lst [.str u]) nQ
      refine ⟨L, Q', _, _, rfl, rfl, sQ _ _ (K5 _ _ Ld Lc (sM _ _ hL)), upd_same, by show 4 ≤ 16777216; decide, fun R nR => ?_⟩
      have sR := same_new (o := .lst [.str X1, .str X2, .str X3, .str u]) nR
      obtain ⟨f, ef, lf⟩ := atStrs (B := W + 1) [X1, X2, X3, u] (fun x hx => by
        rcases List.mem_cons.mp hx with h | hx
        · rw [h]; exact l1
        rcases List.mem_cons.mp hx with h | hx
        · rw [h]; exact l2
        rcases List.mem_cons.mp hx with h | hx
        · rw [h]; exact l3
        rw [List.mem_singleton.mp hx]; omega) w0 (show w < 4 from w1)
      have tkf := ((tk4.trans (Same.tk sM)).trans (K5.tk (D4.same sM))).trans ((Same.tk sQ).trans (Same.tk sR))
      refine ⟨.int w, rfl, R, _, w, .str f, rfl, rfl, SqL.of upd_same, ef, W + 1, v, .str f, b, ks, .str z, D, 0, D, s, 2 * t, rfl, tkf _ _ hb1, lks, hP1.tk tkf, by omega, (hv1.tk tkf).wide (by omega), ⟨.inr ⟨f, rfl, lf⟩, by omega⟩, Nat.le_refl _, by omega, fun v' H6 hv' s6 => ?_⟩
      exact q v' H6 hv' (((D5.same sQ).same sR).same s6) ((((K4.trans (Same.kp sM)).trans K5).trans (Same.kp sQ)).trans ((Same.kp sR).trans (Same.kp s6)))
    · obtain ⟨t2, i2, j2⟩ := kn_str49 (K := K) (H := H1) (v := .ref va) (kind hp1)
      refine ⟨.ref va, rfl, .ref va, _, t2, _, _, rfl, .ty "str", i2, j2, _, rfl, ?_⟩
      have lss := Paired.length hss
      refine ⟨.ref d, rfl, .ref va, rfl, va, rs, rfl, .inr (SqT.of hva), _, _, rfl, rfl, d, c, _, rfl, D1, by omega, nb120 (by omega) (by omega), fun a H2 a0 a1 D2 K2 => ?_⟩
      obtain ⟨a, rfl⟩ : ∃ k : Nat, a = (k : Int) := ⟨a.toNat, by omega⟩
      have al : a ≤ rs.length := by omega
      have tk2 := K2.tk D1
      have hb2 := tk2 _ _ hb1
      have hP2 := hP1.tk tk2
      have hv2 := hv1.tk tk2
      have hva2 := tk2 _ _ hva
      have hss2 : Paired (fun x t => TuN W e H2 x t) rs ss := Paired.mono (fun _ _ z => z.tk tk2) hss
      have K02 := K1.trans K2
      clear tk2 hb1 hP1 hv1 hva hss hp1 D1 K1 K2
      have fin : ∀ (r : Addr) (ys : List V) (us : List Nat) (H' : Hp), Same H2 H' → H' r = some (.tup ys) → Paired (fun x t => TuN W e H2 x t) ys us → ys.length ≤ W + 1 → us.sum ≤ 2 * ss.sum → spPutA 15 [v, .ref b, .ref r] H' Q E0 := fun r ys us H' s' hr hy ly su => ⟨W + 1, v, .ref r, b, ks, .ref va, D, e + 1, D, s, 2 * t, rfl, s' _ _ hb2, lks, hP2.tk (Same.tk s'), by omega, (hv2.tk (Same.tk s')).wide (by omega), .tup hr ly (Paired.mono (fun _ _ z => (z.tk (Same.tk s')).wide (by omega)) hy) (by omega), Nat.le_refl _, by omega, fun v' H3 hv' s3 => q v' H3 hv' ((D2.same s').same s3) ((K02.trans (Same.kp s')).trans (Same.kp s3))⟩
      have td := sum_td ss a
      have dr := sum_dr ss a
      have tkk := sum_td (ss.drop a) 1
      refine ⟨.int w, rfl, rfl, _, rfl, ite2 (fun _ => ?_) (fun _ => ⟨.int w, rfl, rfl, _, rfl, ite2 (fun _ => ?_) (fun _ => ⟨.int w, rfl, rfl, _, rfl, ite2 (fun _ => ?_) (fun _ => ?_)⟩)⟩)⟩
      · refine ⟨v, rfl, .ref b, rfl, .ref va, rfl, .int a, rfl, a, rfl, va, _, rfl, hva2, fun r1 H3 s3 h3 => ?_⟩
        rw [cut_take al] at h3
        refine ⟨.ref va, rfl, .int a, rfl, _, _, rfl, rfl, (a : Int) + 1, rfl, va, _, rfl, s3 _ _ hva2, fun r2 H4 s4 h4 => ?_⟩
        rw [show (a : Int) + 1 = ((a + 1 : Nat) : Int) by omega, cut_dropA] at h4
        refine ⟨r1, r2, _, _, rfl, rfl, s4 _ _ h3, h4, by rw [List.length_take, List.length_drop]; omega, fun r H5 s5 h5 => ?_⟩
        exact fin r _ (ss.take a ++ ss.drop (a + 1)) H5 ((s3.trans s4).trans s5) h5 (Paired.app2F (Paired.takeF a hss2) (Paired.dropF (a + 1) hss2)) (by rw [List.length_append, List.length_take, List.length_drop]; omega) (by rw [List.sum_append]; omega)
      · refine ⟨v, rfl, .ref b, rfl, .ref va, rfl, .int a, rfl, a, rfl, va, _, rfl, hva2, fun r1 H3 s3 h3 => ?_⟩
        rw [cut_take al] at h3
        refine ⟨.ref va, rfl, .int a, rfl, a, rfl, .int a, rfl, _, _, rfl, rfl, (a : Int) + 1, rfl, va, _, rfl, s3 _ _ hva2, fun r2 H4 s4 h4 => ?_⟩
        rw [show (a : Int) + 1 = ((a + 1 : Nat) : Int) by omega, cut_one al] at h4
        refine ⟨r1, r2, _, _, rfl, rfl, s4 _ _ h3, h4, by rw [List.length_take, List.length_take, List.length_drop]; omega, fun r3 H5 s5 h5 => ?_⟩
        have s25 := (s3.trans s4).trans s5
        refine ⟨.ref va, rfl, .int a, rfl, a, rfl, va, _, rfl, s25 _ _ hva2, fun r4 H6 s6 h6 => ?_⟩
        rw [cut_dropA] at h6
        refine ⟨r3, r4, _, _, rfl, rfl, s6 _ _ h5, h6, by rw [List.length_append, List.length_take, List.length_take, List.length_drop]; omega, fun r H7 s7 h7 => ?_⟩
        exact fin r _ (ss.take a ++ (ss.drop a).take 1 ++ ss.drop a) H7 ((s25.trans s6).trans s7) h7 (Paired.app2F (Paired.app2F (Paired.takeF a hss2) (Paired.takeF 1 (Paired.dropF a hss2))) (Paired.dropF a hss2)) (by rw [List.length_append, List.length_append, List.length_take, List.length_take, List.length_drop]; omega) (by rw [List.sum_append, List.sum_append]; omega)
      · refine ⟨v, rfl, .ref b, rfl, .ref va, rfl, .int a, rfl, a, rfl, va, _, rfl, hva2, fun r1 H3 s3 h3 => ?_⟩
        rw [cut_take al] at h3
        refine ⟨.ref va, rfl, .int a, rfl, a, rfl, va, _, rfl, s3 _ _ hva2, fun r2 H4 s4 h4 => ?_⟩
        rw [cut_dropA] at h4
        refine ⟨r2, _, rfl, SqT.of h4, fun r5 n5 => ?_⟩
        have s5 := same_new (o := .tup (rs.drop a).reverse) n5
        refine ⟨r1, r5, _, _, rfl, rfl, s5 _ _ (s4 _ _ h3), upd_same, by rw [List.length_take, List.length_reverse, List.length_drop]; omega, fun r H6 s6 h6 => ?_⟩
        exact fin r _ (ss.take a ++ (ss.drop a).reverse) H6 (((s3.trans s4).trans s5).trans s6) h6 (Paired.app2F (Paired.takeF a hss2) (Paired.revF (Paired.dropF a hss2))) (by rw [List.length_append, List.length_take, List.length_reverse, List.length_drop]; omega) (by rw [List.sum_append, sum_rev]; omega)
      · refine ⟨v, rfl, .ref b, rfl, .ref va, rfl, .int a, rfl, a, rfl, va, _, rfl, hva2, fun r1 H3 s3 h3 => ?_⟩
        rw [cut_dropA] at h3
        refine ⟨.ref va, rfl, .int a, rfl, a, rfl, va, _, rfl, s3 _ _ hva2, fun r2 H4 s4 h4 => ?_⟩
        rw [cut_take al] at h4
        refine ⟨r1, r2, _, _, rfl, rfl, s4 _ _ h3, h4, by rw [List.length_take, List.length_drop]; omega, fun r H5 s5 h5 => ?_⟩
        exact fin r _ (ss.drop a ++ ss.take a) H5 ((s3.trans s4).trans s5) h5 (Paired.app2F (Paired.dropF a hss2) (Paired.takeF a hss2)) (by rw [List.length_append, List.length_take, List.length_drop]; omega) (by rw [List.sum_append]; omega)
end
/-! ### papers: the law of k82 -/
theorem tabs_kp {Ps : List Addr} {d c : Addr} {H H' : Hp} (t : Tabs Ps H) (D : Deck H d c) (k : Kp d c H H') : Tabs Ps H' := fun P hP => by
  obtain ⟨ps, e, h⟩ := t P hP
  obtain ⟨cells, st, n, h1, h2, _⟩ := D
  exact ⟨ps, k P _ (ne_of e h1 (by intro z; cases z)) (ne_of e h2 (by intro z; cases z)) e, h⟩
theorem rng_pw (m : Nat) : (rng m).Pairwise (· < ·) := by
  unfold rng
  refine List.pairwise_map.mpr (List.pairwise_lt_range.imp fun h => ?_)
  omega
structure St82 (Ps : List Addr) (d c wa G B : Addr) (n : Int) (ts : List Tie) (g : Int → Int) (bs : List Int) (H : Hp) : Prop where
  dk : Deck H d c
  tb : Tabs Ps H
  wd : WorldAt H (.ref wa) n ts g
  gv : H G = some (.tup ((rng ts.length).map V.int))
  bd : H B = some (.lst (bs.map V.int))
  bn : B ≠ d ∧ B ≠ c
theorem St82.kt {Ps : List Addr} {d c wa G B : Addr} {n : Int} {ts : List Tie} {g : Int → Int} {bs : List Int} {H H' : Hp} (h : St82 Ps d c wa G B n ts g bs H) (k : Kt Ps H H') : St82 Ps d c wa G B n ts g bs H' :=
  ⟨k.deck h.tb h.dk, k.tab, h.wd.tk (k.tk h.tb), k.tup h.tb h.gv, k.lst h.tb h.bd, h.bn⟩
theorem St82.kp {Ps : List Addr} {d c wa G B : Addr} {n : Int} {ts : List Tie} {g : Int → Int} {bs : List Int} {H H' : Hp} (h : St82 Ps d c wa G B n ts g bs H) (D : Deck H' d c) (k : Kp d c H H') : St82 Ps d c wa G B n ts g bs H' :=
  ⟨D, tabs_kp h.tb h.dk k, h.wd.tk (k.tk h.dk), k.tk h.dk _ _ h.gv, k _ _ h.bn.1 h.bn.2 h.bd, h.bn⟩
theorem SpotW.tk {W d S : Nat} {v : V} {H H' : Hp} (t : Tk H H') {l : V} (h : SpotW W d S v H l) : SpotW W d S v H' l := by
  obtain ⟨s, b, h⟩ := h
  exact ⟨s, b, h.tk t⟩
def spLaw (K : PySem.W.Frag) (Ps : List Addr) : Sp := fun vs H Q _ => ∃ (a : Addr) (ns : List Int), vs = [.ref a] ∧ SqL K H a (ns.map V.int) ∧ ns.length ≤ 63 ∧ Tabs Ps H ∧ ∀ H', Q (.bl true) H'
section
variable {P : Program} {w : World} {K : PySem.W.Frag} {mg : Str → Option Value} {base : Heap}
set_option maxHeartbeats 16000000 in
theorem ok_law {f : Addr} {fd : FuncData} {Ps : List Addr} (F : Fun K "law" "law" s_law f fd) (M : Free mg) (D_l_feed : Df P w K mg base 1 "_law_feed" ["_law_script"] (spDeck K)) (D_l_world : Df P w K mg base 3 "_law_world" ["_law_feed_here", "_law_places", "_law_most"] spPWorld) (D_l_bounds : Df P w K mg base 3 "_law_bounds" ["_law_feed_here", "_law_world_here"] spBounds82) (D_l_paper : Df P w K mg base 9 "_law_paper" ["_law_feed_here", "_law_world_here", "_law_sure", "_law_given", "_law_deep"] (spPPaper 4)) (D_l_told : Df P w K mg base 52 "_law_told" ["_law_world_here", "_law_thing"] (spTold Ps 14)) (D_l_is_bound : Df P w K mg base 53 "_law_is_bound" ["_law_world_here", "_law_some", "_law_bounds_here"] (spIsBound Ps 14)) (D_l_spots : Df P w K mg base 2 "_law_spots" ["_law_thing"] spSpots) (D_l_draw : Df P w K mg base 1 "_law_draw" ["_law_feed_here", "_law_most"] spDraw) (D_l_spoiled : Df P w K mg base 17 "_law_spoiled" ["_law_feed_here", "_law_thing", "_law_spot"] spSpoiled) : FnOk P w K mg base CX0 54 f fd ["_law_script"] (spLaw K Ps) := by
  obtain ⟨f_l_feed, fd_l_feed, G_l_feed, g_l_feed, k_l_feed, b_l_feed⟩ := D_l_feed
  obtain ⟨f_l_world, fd_l_world, G_l_world, g_l_world, k_l_world, b_l_world⟩ := D_l_world
  obtain ⟨f_l_bounds, fd_l_bounds, G_l_bounds, g_l_bounds, k_l_bounds, b_l_bounds⟩ := D_l_bounds
  obtain ⟨f_l_paper, fd_l_paper, G_l_paper, g_l_paper, k_l_paper, b_l_paper⟩ := D_l_paper
  obtain ⟨f_l_told, fd_l_told, G_l_told, g_l_told, k_l_told, b_l_told⟩ := D_l_told
  obtain ⟨f_l_is_bound, fd_l_is_bound, G_l_is_bound, g_l_is_bound, k_l_is_bound, b_l_is_bound⟩ := D_l_is_bound
  obtain ⟨f_l_spots, fd_l_spots, G_l_spots, g_l_spots, k_l_spots, b_l_spots⟩ := D_l_spots
  obtain ⟨f_l_draw, fd_l_draw, G_l_draw, g_l_draw, k_l_draw, b_l_draw⟩ := D_l_draw
  obtain ⟨f_l_spoiled, fd_l_spoiled, G_l_spoiled, g_l_spoiled, k_l_spoiled, b_l_spoiled⟩ := D_l_spoiled
  refine F.ok sc_law (fun vs H Q E h => ?_) (fun cdv A outer s H vs Q E hr h => ?_)
  · obtain ⟨sc, ns, rfl, _⟩ := h
    rfl
  · obtain ⟨sc, ns, rfl, hS, few63, hT, q⟩ := h
    refine ⟨_, (pss_cons (ps_set (i := 1) sc_law.nd rfl (.inl rfl) (pe_call G_l_feed (hr.mono (by decide)) (by rfl) g_l_feed k_l_feed b_l_feed .nil pass0 (pa_cons (pv 0) pa_nil)))
      (pss_cons (ps_for PassesOwn.never rfl (pi_range1 (by rfl) M.range (pa_cons pe_int pa_nil)) (pg_name (i := 2) sc_law.nd rfl (.inl rfl))
        (pss_cons (ps_set (i := 3) sc_law.nd rfl (.inl rfl) (pe_call G_l_world (hr.mono (by decide)) (by rfl) g_l_world k_l_world b_l_world .nil pass0 (pa_cons (pv 1) (pa_cons pe_int (pa_cons pe_int pa_nil)))))
        (pss_cons (ps_set (i := 4) sc_law.nd rfl (.inl rfl) (pe_tupRg rfl (by rfl) M.tuple (prg_1 (by rfl) M.range (pe_callB call_len_seq (by rfl) M.len PySem.boot_len (pa_cons (pe_ix ix_tup (pv 3) pe_int (fun _ _ => rfl)) pa_nil)))))
        (pss_cons (ps_set (i := 5) sc_law.nd rfl (.inl rfl) (pe_call G_l_bounds (hr.mono (by decide)) (by rfl) g_l_bounds k_l_bounds b_l_bounds .nil pass0 (pa_cons (pv 1) (pa_cons (pv 3) pa_nil))))
        (pss_one (ps_for PassesOwn.never rfl (pi_range1 (by rfl) M.range (pa_cons pe_int pa_nil)) (pg_name (i := 6) sc_law.nd rfl (.inl rfl))
          (pss_cons (ps_set (i := 7) sc_law.nd rfl (.inl rfl) (pe_call G_l_paper (hr.mono (by decide)) (by rfl) g_l_paper k_l_paper b_l_paper .nil pass0 (pa_cons (pv 1) (pa_cons (pv 3) (pa_cons (pe_tup pa_nil) (pa_cons (pv 4) (pa_cons pe_int pa_nil)))))))
          (pss_cons (ps_if (PW.pt (pw_or (pt_not (pt_val (pe_call G_l_is_bound (hr.mono (by decide)) (by rfl) g_l_is_bound k_l_is_bound b_l_is_bound .nil pass0 (pa_cons (pv 3) (pa_cons (pv 7) (pa_cons (pv 5) pa_nil)))))) (pw_or1 (pt_cmpR op_isN (pe_call G_l_told (hr.mono (by decide)) (by rfl) g_l_told k_l_told b_l_told .nil pass0 (pa_cons (pv 3) (pa_cons (pv 7) pa_nil))) pe_non (nomark _)))))
            (pss_one (ps_ret pe_bl))
            pss_nil)
          (pss_cons (ps_set (i := 8) sc_law.nd rfl (.inl rfl) (pe_call G_l_spots (hr.mono (by decide)) (by rfl) g_l_spots k_l_spots b_l_spots .nil pass0 (pa_cons (pv 7) pa_nil)))
          (pss_one (ps_for PassesOwn.never rfl (pi_range1 (by rfl) M.range (pa_cons pe_int pa_nil)) (pg_name (i := 9) sc_law.nd rfl (.inl rfl))
            (pss_cons (ps_set (i := 10) sc_law.nd rfl (.inl rfl) (pe_call G_l_spoiled (hr.mono (by decide)) (by rfl) g_l_spoiled k_l_spoiled b_l_spoiled .nil pass0 (pa_cons (pv 1) (pa_cons (pv 7) (pa_cons (pe_ix ix_list (pv 8) (pe_call G_l_draw (hr.mono (by decide)) (by rfl) g_l_draw k_l_draw b_l_draw .nil pass0 (pa_cons (pv 1) (pa_cons (pe_callB call_len_seq (by rfl) M.len PySem.boot_len (pa_cons (pv 8) pa_nil)) pa_nil))) (fun _ _ => rfl)) pa_nil)))))
            (pss_one (ps_if (pt_not (pt_val (pe_call G_l_is_bound (hr.mono (by decide)) (by rfl) g_l_is_bound k_l_is_bound b_l_is_bound .nil pass0 (pa_cons (pv 3) (pa_cons (pv 10) (pa_cons (pv 5) pa_nil))))))
              (pss_one (ps_ret pe_bl))
              pss_nil))))))))))))))
      (pss_one (ps_ret pe_bl)))), ?_⟩
    refine ⟨.ref sc, rfl, sc, ns, rfl, hS, few63, fun d c H1 s1 nd nc D1 => ?_⟩
    have T1 : Tabs Ps H1 := (Kt.same hT s1).tab
    clear s1 nd nc
    refine ⟨2, rfl, by decide, by decide, ?_⟩
    refine for_range (lo := 0) (n := 2) (fun i σ' H' => ∃ y2 y3 y4 y5 y6 y7 y8 y9 y10 : Option V, σ' = [some (.ref sc), some (.ref d), y2, y3, y4, y5, y6, y7, y8, y9, y10] ∧ Deck H' d c ∧ Tabs Ps H') ⟨_, _, _, _, _, _, _, _, _, rfl, D1, T1⟩ ?_ ?_
    · clear D1 T1
      rintro i σ' H2 hi ⟨y2, y3, y4, y5, y6, y7, y8, y9, y10, rfl, D2, T2⟩
      refine ⟨.ref d, rfl, d, c, 6, 10, rfl, D2, by decide, by decide, by decide, by decide, fun wa n ts g H3 Wd ok n6 t10 gp D3 K3 => ?_⟩
      have T3 := tabs_kp T2 D2 K3
      obtain ⟨n, rfl⟩ : ∃ m : Nat, n = (m : Int) := ⟨n.toNat, by have := ok.lo; omega⟩
      obtain ⟨wa', tb, wt, us, ewa, hwa, htb, hp, _⟩ := id Wd.ex
      cases ewa
      have lu := Paired.length hp
      refine ⟨.ref _, rfl, _, _, 1, .ref tb, rfl, rfl, SqT.of hwa, rfl, tb, us, rfl, .inr (SqT.of htb), ts.length, by rw [lu], RgOk.of_le (by decide) (by omega) (by decide) (by omega), fun G nG => ?_⟩
      rw [show rgV 0 (ts.length : Int) = (rng ts.length).map V.int from rgV_rng' _]
      have s4 := same_new (o := .tup ((rng ts.length).map V.int)) nG
      have hG := upd_same (H := H3) (a := G) (o := .tup ((rng ts.length).map V.int))
      have D4 := D3.same s4
      have T4 : Tabs Ps _ := (Kt.same T3 s4).tab
      have W4 := Wd.tk (Same.tk s4)
      generalize upd H3 G (.tup ((rng ts.length).map V.int)) = H4 at hG D4 T4 W4
      clear s4 nG D3 T3 Wd hwa htb hp lu D2 T2 K3
      refine ⟨.ref d, rfl, .ref wa, rfl, d, c, .ref wa, n, ts, g, rfl, D4, W4, ok, by omega, gp, fun B bs H5 hB b0 hbs Bn D5 K5 => ?_⟩
      have st5 : St82 Ps d c wa G B n ts g bs H5 := ⟨D5, tabs_kp T4 D4 K5, W4.tk (K5.tk D4), K5.tk D4 _ _ hG, hB, Bn⟩
      clear hG D4 T4 W4 hB Bn D5 K5
      refine ⟨2, rfl, by decide, by decide, ?_⟩
      refine for_range (lo := 0) (n := 2) (fun k σ' H' => ∃ y6 y7 y8 y9 y10 : Option V, σ' = [some (.ref sc), some (.ref d), some (.int (0 + (i : Nat))), some (.ref wa), some (.ref G), some (.ref B), y6, y7, y8, y9, y10] ∧ St82 Ps d c wa G B n ts g bs H') ⟨_, _, _, _, _, rfl, st5⟩ ?_ ?_
      · clear st5
        rintro k σ' H6 hk ⟨y6, y7, y8, y9, y10, rfl, st6⟩
        refine ⟨.ref d, rfl, .ref wa, rfl, Nat.zero_le _, fun e ne => ?_⟩
        have s7 := same_new (o := .tup []) ne
        have he := upd_same (H := H6) (a := e) (o := .tup [])
        have st7 := st6.kt (Kt.same st6.tb s7)
        generalize upd H6 e (.tup []) = H7 at he st7
        clear s7 ne st6
        refine ⟨.ref G, rfl, d, c, e, G, .ref wa, n, ts, [], g, rng ts.length, 3, rfl, Nat.le_refl _, st7.dk, st7.wd, ⟨[], he, .nil⟩, by rw [List.append_nil]; exact ok, by rw [List.append_nil]; show ts.length + 3 ≤ 120; omega, st7.gv, rng_pw _, fun x hx => mem_rng.mp hx, gp, fun v z H8 hv hz D8 K8 => ?_⟩
        rw [List.append_nil] at hz
        have st8 := st7.kp D8 K8
        clear he K8 D8 st7
        have pv8 : PapV 14 _ v := (hv.tut (by decide)).pap
        have sh := hz 15 (by decide)
        refine ⟨.ref wa, rfl, v, rfl, .ref B, rfl, ?_⟩
        refine ⟨.ref wa, v, B, n, ts, g, bs, rfl, st8.wd, ok, by omega, pv8, st8.bd, b0, hbs, gp, st8.tb, fun H9 k9 => ?_⟩
        refine ⟨true, rfl, ?_⟩
        have st9 := st8.kt k9
        have pv9 := pv8.stay (StayP.kt k9 st8.tb)
        refine ⟨.ref wa, rfl, v, rfl, .ref wa, v, n, ts, g, rfl, st9.wd, ok, by omega, pv9, st9.tb, fun Ha ka => ?_⟩
        rw [shown_stay pv8 (StayP.kt k9 st8.tb), sh]
        refine ⟨rfl, _, rfl, ?_⟩
        refine ite2 (fun h => absurd (of_decide_eq_true h) (by intro h; cases h)) (fun _ => ?_)
        have sta := st9.kt ka
        have hva := (hv.tk (k9.tk st8.tb)).tk (ka.tk st9.tb)
        clear hz sh pv8 pv9 hv st8 st9 k9 ka
        refine ⟨v, rfl, v, 200, 14, 26800, rfl, hva, by decide, by decide, by decide, fun R ls Hb hR hw lpos lS sb nR => ?_⟩
        obtain ⟨Rd, Rc⟩ := sta.dk.ned nR
        have st := sta.kt (Kt.same sta.tb sb)
        have hv := hva.tk (Same.tk sb)
        clear sta nR sb hva
        refine ⟨4, rfl, by decide, by decide, ?_⟩
        refine for_range (lo := 0) (n := 4) (fun j σ' H' => ∃ y9 y10 : Option V, σ' = [some (.ref sc), some (.ref d), some (.int (0 + (i : Nat))), some (.ref wa), some (.ref G), some (.ref B), some (.int (0 + (k : Nat))), some v, some (.ref R), y9, y10] ∧ St82 Ps d c wa G B n ts g bs H' ∧ TuN 200 14 H' v 26800 ∧ H' R = some (.lst ls) ∧ ∀ l ∈ ls, SpotW 200 14 26800 v H' l) ⟨_, _, rfl, st, hv, hR, hw⟩ ?_ ?_
        · clear st hR hw hv
          rintro j σ' H11 hj ⟨y9, y10, rfl, st, hv, hR, hw⟩
          refine ⟨.ref d, rfl, v, rfl, .ref R, rfl, .ref d, rfl, .ref R, rfl, R, ls, rfl, .inl (SqL.of hR), d, c, _, rfl, st.dk, by omega, nb120 (by omega) (by omega), fun z H12 z0 z1 D12 K12 => ?_⟩
          have st12 := st.kp D12 K12
          have hR12 := K12 _ _ Rd Rc hR
          have tk12 := K12.tk st.dk
          have hv12 := hv.tk tk12
          have hw12 : ∀ l ∈ ls, SpotW 200 14 26800 v H12 l := fun l hl => (hw l hl).tk tk12
          clear st hR hw hv K12 D12 tk12
          obtain ⟨u, au, gu⟩ := getI (xs := ls) z0 z1
          obtain ⟨s', ls', b, ks, p, e', rfl, hb, hP, hpt, hd⟩ := hw12 _ (List.mem_of_getElem? gu)
          refine ⟨R, ls, z, .ref b, rfl, rfl, SqL.of hR12, au, d, c, v, b, ks, p, 200, e', 14, 26800, s', rfl, st12.dk, hb, by omega, hP, by decide, by decide, hv12, hpt, hd, fun v' H13 hv' D13 K13 => ?_⟩
          have st13 := st12.kp D13 K13
          have hR13 := K13 _ _ Rd Rc hR12
          have tk13 := K13.tk st12.dk
          have hv13 := hv12.tk tk13
          have hw13 : ∀ l ∈ ls, SpotW 200 14 26800 v H13 l := fun l hl => (hw12 l hl).tk tk13
          clear st12 hR12 hw12 hv12 K13 D13 tk13 hb hP hpt au gu
          have pv13 : PapV 14 _ v' := (hv'.tut (by decide)).pap
          refine ⟨.ref wa, rfl, v', rfl, .ref B, rfl, .ref wa, v', B, n, ts, g, bs, rfl, st13.wd, ok, by omega, pv13, st13.bd, b0, hbs, gp, st13.tb, fun H14 k14 => ?_⟩
          refine ⟨true, rfl, ?_⟩
          exact ⟨_, _, rfl, st13.kt k14, hv13.tk (k14.tk st13.tb), k14.lst st13.tb hR13, fun l hl => (hw13 l hl).tk (k14.tk st13.tb)⟩
        · rintro σ' H11 ⟨y9, y10, rfl, st, hv, hR, hw⟩
          exact ⟨_, _, _, _, _, rfl, st⟩
      · rintro σ' H6 ⟨y6, y7, y8, y9, y10, rfl, st6⟩
        exact ⟨_, _, _, _, _, _, _, _, _, rfl, st6.dk, st6.tb⟩
    · rintro σ' H2 ⟨y2, y3, y4, y5, y6, y7, y8, y9, y10, rfl, D2, T2⟩
      exact q _
end
/-! ### the end of a law whose defs hold generator expressions: their tables are empty behind the top -/
theorem walk_tabs {l : PySem.W.OpenLaw} {n k : Nat} {q : Program} {loose : List Str} {XP : (Str → Option Value) → Heap → Prop} {YP : World → Heap → Prop} {d : DefRec} {K : Params → PySem.W.Frag} {x : Str}
    (hn : l.most = some n) (hn2 : n ≤ sizeLine) (hdf : d.params.defaults = []) (hr : Room k callerA) (hY : ∀ (w : World) (h : Heap), YP w h → (K w.params).In h)
    (F : ∀ (w : World) (mg : Str → Option Value) (fa : Addr) (h : Heap), (K w.params).In h → h.Ns mainGlobals mg → mg d.name = some (.ref fa) →
      (∀ (y : Str) (fy : Addr), ((recsOf q).any fun e => e.name == y) = true → mg y = some (.ref fy) → LamX.OwnTab (K w.params) fy h) → LamX.LawAtS l w (K w.params) CX0 k n x mg fa h) :
    PySem.W.WalkO q loose XP YP l.row.toRowW d [] (fun f vs => PySem.call f vs) := by
  refine Att.attach_callB hn hdf fun w s₀ s₁ mg mb fa o pm cd doc a vs ns G Y ho hd hcd hmg hobj hints hlen hbits hg => ?_
  have KX := hY w _ Y
  have tabs : ∀ (y : Str) (fy : Addr), ((recsOf q).any fun e => e.name == y) = true → mg y = some (.ref fy) → LamX.OwnTab (K w.params) fy s₁.heap := fun y fy hy hm c P o1 fd1 e dd vs1 sl k1 k2 k3 k4 k5 => by
    obtain ⟨dL, hmem, hnm⟩ := List.any_eq_true.mp hy
    have hnm : dL.name = y := beq_iff_eq.mp hnm
    obtain ⟨a', o', fd', c', P', h1, h2, h3, h4, h5, h6⟩ := G.T.tab dL hmem
    rw [hnm, hm] at h1
    cases h1
    rw [KX _ _ k1] at h2
    cases h2
    rw [k2] at h3
    cases h3
    rw [k3] at h4
    cases h4
    obtain ⟨⟨oc, vc, e1, _, e3, e4⟩, hP⟩ := h6
    rw [KX _ _ k4] at e1
    cases e1
    cases e3
    rw [k5] at e4
    cases e4
    exact hP
  obtain ⟨fd, cs, sp, hT, nT, C, hb, hsp, hF⟩ := F w mg fa _ KX G.T.g hmg tabs
  exact LamX.law_callTs KX G.T.g G.T.b G.T.builtins G.T.nolimit hg hT nT C G.T.bmain hobj hints (Nat.le_trans hlen hn2) hr hF hb (fun H hH hS => hsp H a ns hlen hbits hH hS) fun H e s' z => z
/-- where a def stands, and where its code object does -/
structure At (K : PySem.W.Frag) (x : Str) (st : Stmt) (f : Addr) : Prop where
  ns : PySem.W.nsIn K mainGlobals x = some (some (.ref f))
  ex : ∃ (oc : Value) (od : Option Addr) (kV doc pm : Value) (an : Option Addr) (cdv ct : Value) (osl : Array (Option Value)),
    K.lookup f = some ⟨oc, od, .func (PySem.W.fnOf x x (defArgs st) (defBody st) (defScope st) .none kV doc pm an cdv ct), osl⟩ ∧ PySem.W.codeIn K cdv x = true
  kp : PySem.W.keepIn K (.ref f) = true
theorem at_mk {K : PySem.W.Frag} {x : Str} {st : Stmt} {f : Addr} {oc : Value} {od an : Option Addr} {osl : Array (Option Value)} {kV doc pm cdv ct : Value} (a : PySem.W.nsIn K mainGlobals x = some (some (.ref f)))
    (l : K.lookup f = some ⟨oc, od, .func (PySem.W.fnOf x x (defArgs st) (defBody st) (defScope st) .none kV doc pm an cdv ct), osl⟩) (c : PySem.W.codeIn K cdv x = true) (k : PySem.W.keepIn K (.ref f) = true) : At K x st f := ⟨a, ⟨oc, od, kV, doc, pm, an, cdv, ct, osl, l, c⟩, k⟩
theorem At.fn {K : PySem.W.Frag} {x : Str} {st : Stmt} {f : Addr} (h : At K x st f) : ∃ fd, Fun K x x st f fd := by
  obtain ⟨oc, od, kV, doc, pm, an, cdv, ct, osl, l, c⟩ := h.ex
  exact ⟨_, fun_mk l c h.kp⟩
structure AtC (K : PySem.W.Frag) (x : Str) (st : Stmt) (f c Pt : Addr) : Prop where
  ns : PySem.W.nsIn K mainGlobals x = some (some (.ref f))
  ex : ∃ (oc : Value) (od : Option Addr) (kV doc pm : Value) (an : Option Addr) (ct : Value) (osl : Array (Option Value)),
    K.lookup f = some ⟨oc, od, .func (PySem.W.fnOf x x (defArgs st) (defBody st) (defScope st) .none kV doc pm an (.ref c) ct), osl⟩ ∧ PySem.W.codeIn K (.ref c) x = true
  kp : PySem.W.keepIn K (.ref f) = true
  co : ∃ (dd : Option Addr) (vs : Array Value) (sl : Array (Option Value)) (file : Str) (tf : Tok) (flags : Int) (tg : Tok) (inF : Bool) (text : Int) (tt : Tok), K.lookup c = some ⟨.type "code", dd, .fields vs, sl⟩ ∧ vs[11]? = some (.ref Pt) ∧ vs.getD 11 .none = .ref Pt ∧ vs.getD 18 .none = .str file tf ∧
    vs.getD 7 .none = .int flags tg ∧ vs.getD 9 .none = .bool inF ∧ vs.getD 10 .none = .int text tt ∧ c ≠ Pt
  nP : K.lookup Pt = none
theorem atC_mk {K : PySem.W.Frag} {x : Str} {st : Stmt} {f c Pt : Addr} {oc : Value} {od an dd : Option Addr} {osl sl : Array (Option Value)} {kV doc pm ct : Value} {vs : Array Value} {file : Str} {tf tg tt : Tok} {flags text : Int} {inF : Bool} (a : PySem.W.nsIn K mainGlobals x = some (some (.ref f)))
    (l : K.lookup f = some ⟨oc, od, .func (PySem.W.fnOf x x (defArgs st) (defBody st) (defScope st) .none kV doc pm an (.ref c) ct), osl⟩) (cc : PySem.W.codeIn K (.ref c) x = true) (k : PySem.W.keepIn K (.ref f) = true)
    (lc : K.lookup c = some ⟨.type "code", dd, .fields vs, sl⟩) (v11 : vs[11]? = some (.ref Pt)) (w11 : vs.getD 11 .none = .ref Pt) (v18 : vs.getD 18 .none = .str file tf) (v7 : vs.getD 7 .none = .int flags tg) (v9 : vs.getD 9 .none = .bool inF) (v10 : vs.getD 10 .none = .int text tt) (ne : c ≠ Pt)
    (nP : K.lookup Pt = none) : AtC K x st f c Pt := ⟨a, ⟨oc, od, kV, doc, pm, an, ct, osl, l, cc⟩, k, ⟨dd, vs, sl, file, tf, flags, tg, inF, text, tt, lc, v11, w11, v18, v7, v9, v10, ne⟩, nP⟩
theorem AtC.fn {K : PySem.W.Frag} {x : Str} {st : Stmt} {f c Pt : Addr} (h : AtC K x st f c Pt) : ∃ fd, FunC K x x st f fd c := by
  obtain ⟨oc, od, kV, doc, pm, an, ct, osl, l, cc⟩ := h.ex
  exact ⟨_, ⟨oc, od, kV, doc, pm, an, ct, osl, rfl, l, cc⟩, h.kp⟩
theorem AtC.hd {K : PySem.W.Frag} {h : Heap} {x : Str} {st : Stmt} {f c Pt : Addr} (a : AtC K x st f c Pt) (X : K.In h) : PySem.W.CodeHd h c Pt := by
  obtain ⟨dd, vs, sl, file, tf, flags, tg, inF, text, tt, lc, v11, w11, v18, v7, v9, v10, ne⟩ := a.co
  exact ⟨_, vs, file, tf, flags, tg, inF, text, tt, X _ _ lc, rfl, rfl, v11, w11, v18, v7, v9, v10, ne⟩
theorem AtC.tab {K : PySem.W.Frag} {h : Heap} {x : Str} {st : Stmt} {f c Pt : Addr} (a : AtC K x st f c Pt) (o : LamX.OwnTab K f h) : h.get? Pt = some { cls := .none, data := .fields #[] } := by
  obtain ⟨oc, od, kV, doc, pm, an, ct, osl, l, cc⟩ := a.ex
  obtain ⟨dd, vs, sl, file, tf, flags, tg, inF, text, tt, lc, v11, w11, v18, v7, v9, v10, ne⟩ := a.co
  exact o c Pt _ _ _ _ _ _ l rfl rfl lc v11
section
variable {P : Program} {w : World} {K : PySem.W.Frag} {mg : Str → Option Value} {base : Heap}
theorem Df.of {x : Str} {st : Stmt} {f : Addr} {fd : FuncData} {k : Nat} {ps : List Str} {sp : Sp} (g : mg x = some (.ref f)) (F : Fun K x x st f fd) (G : FnOk P w K mg base CX0 k f fd ps sp)
    (h : ∀ (kV doc pm : Value) (an : Option Addr) (cdv ct : Value) (us : List Value), us.length = ps.length → bindArgs (PySem.W.fnOf x x (defArgs st) (defBody st) (defScope st) .none kV doc pm an cdv ct) ⟨us, []⟩ = pure (ps.zip us)) : Df P w K mg base k x ps sp :=
  ⟨f, fd, G, g, F.kp, F.binds h⟩
end
/-! ### what the top has written -/
section
variable {P : Program} {w : World} {K : PySem.W.Frag} {mg : Str → Option Value} {base : Heap}
set_option maxHeartbeats 0 in
theorem law_at {l : PySem.W.OpenLaw} {w : World} {K : PySem.W.Frag} {h : Heap} {mg : Str → Option Value} {fa f0 f1 f2 f3 f4 f5 f6 f7 f8 f9 f10 f11 f12 f13 f14 f15 f16 f17 f18 f19 f20 f21 f22 f23 f24 f25 f26 f27 f28 f29 f30 f31 f32 f33 f34 f35 f36 f37 f38 f39 c5 P5 c6 P6 c8 P8 c12 P12 c13 P13 c14 P14 : Addr} (X : K.In h) (G : h.Ns mainGlobals mg) (hfa : mg "law" = some (.ref fa))
    (t5 : ∀ (fy : Addr), mg "are_rising_below" = some (.ref fy) → LamX.OwnTab K fy h)
    (t6 : ∀ (fy : Addr), mg "are_unlike_below" = some (.ref fy) → LamX.OwnTab K fy h)
    (t8 : ∀ (fy : Addr), mg "ring_holds" = some (.ref fy) → LamX.OwnTab K fy h)
    (t12 : ∀ (fy : Addr), mg "is_ring_row" = some (.ref fy) → LamX.OwnTab K fy h)
    (t13 : ∀ (fy : Addr), mg "rings_show" = some (.ref fy) → LamX.OwnTab K fy h)
    (t14 : ∀ (fy : Addr), mg "is_split_row" = some (.ref fy) → LamX.OwnTab K fy h)
    (a0 : At K "is_whole" s_is_whole f0)
    (a1 : At K "is_whole_from" s_is_whole_from f1)
    (a2 : At K "is_whole_below" s_is_whole_below f2)
    (a3 : At K "are_unlike_places" s_are_unlike_places f3)
    (a4 : At K "is_tuple_of" s_is_tuple_of f4)
    (a5 : AtC K "are_rising_below" s_are_rising_below f5 c5 P5)
    (a6 : AtC K "are_unlike_below" s_are_unlike_below f6 c6 P6)
    (a7 : At K "joins" s_joins f7)
    (a8 : AtC K "ring_holds" s_ring_holds f8 c8 P8)
    (a9 : At K "foes_in" s_foes_in f9)
    (a10 : At K "odd_ring_holds" s_odd_ring_holds f10)
    (a11 : At K "weight_of" s_weight_of f11)
    (a12 : AtC K "is_ring_row" s_is_ring_row f12 c12 P12)
    (a13 : AtC K "rings_show" s_rings_show f13 c13 P13)
    (a14 : AtC K "is_split_row" s_is_split_row f14 c14 P14)
    (a15 : At K "split_shows" s_split_shows f15)
    (a16 : At K "case_shows" s_case_shows f16)
    (a17 : At K "knot_shows" s_knot_shows f17)
    (a18 : At K "shown_by" s_shown_by f18)
    (a19 : At K "_law_feed" s_l_feed f19)
    (a20 : At K "_law_draw" s_l_draw f20)
    (a21 : At K "_law_web" s_l_web f21)
    (a22 : At K "_law_weights" s_l_weights f22)
    (a23 : At K "_law_weight" s_l_weight f23)
    (a24 : At K "_law_world" s_l_world f24)
    (a25 : At K "_law_way" s_l_way f25)
    (a26 : At K "_law_turned" s_l_turned f26)
    (a27 : At K "_law_rings" s_l_rings f27)
    (a28 : At K "_law_ring_rows" s_l_ring_rows f28)
    (a29 : At K "_law_paper" s_l_paper f29)
    (a30 : At K "_law_told" s_l_told f30)
    (a31 : At K "_law_part" s_l_part f31)
    (a32 : At K "_law_spots" s_l_spots f32)
    (a33 : At K "_law_put" s_l_put f33)
    (a34 : At K "_law_spoiled" s_l_spoiled f34)
    (a35 : At K "_law_broken" s_l_broken f35)
    (a36 : At K "_law_least" s_l_least f36)
    (a37 : At K "_law_bounds" s_l_bounds f37)
    (a38 : At K "_law_is_bound" s_l_is_bound f38)
    (a39 : At K "law" s_law f39)
    (z0 : PySem.W.nsIn K mainGlobals "len" = some none)
    (z1 : PySem.W.nsIn K mainGlobals "int" = some none)
    (z2 : PySem.W.nsIn K mainGlobals "bool" = some none)
    (z3 : PySem.W.nsIn K mainGlobals "str" = some none)
    (z4 : PySem.W.nsIn K mainGlobals "list" = some none)
    (z5 : PySem.W.nsIn K mainGlobals "tuple" = some none)
    (z6 : PySem.W.nsIn K mainGlobals "range" = some none)
    (z7 : PySem.W.nsIn K mainGlobals "isinstance" = some none)
    (z8 : PySem.W.nsIn K mainGlobals "sum" = some none)
    (z9 : PySem.W.nsIn K mainGlobals "all" = some none)
    (z10 : PySem.W.nsIn K mainGlobals "any" = some none)
    (z11 : PySem.W.nsIn K mainGlobals "dict" = some none)
    (z12 : PySem.W.nsIn K mainGlobals "max" = some none)
    (z13 : PySem.W.nsIn K mainGlobals "min" = some none)
    (z14 : PySem.W.nsIn K mainGlobals "set" = some none)
    (z15 : PySem.W.nsIn K mainGlobals "sorted" = some none)
    (z16 : PySem.W.nsIn K mainGlobals "zip" = some none)
     :
    LamX.LawAtS l w K CX0 54 63 "_law_script" mg fa h := by
  have efa := hfa.symm.trans (PySem.W.mg_of X G a39.ns)
  cases efa
  have M : Free mg := ⟨PySem.W.mg_none_of X G z0, PySem.W.mg_none_of X G z1, PySem.W.mg_none_of X G z2, PySem.W.mg_none_of X G z3, PySem.W.mg_none_of X G z4, PySem.W.mg_none_of X G z5, PySem.W.mg_none_of X G z6, PySem.W.mg_none_of X G z7, PySem.W.mg_none_of X G z8⟩
  have m_all := PySem.W.mg_none_of X G z9
  have m_any := PySem.W.mg_none_of X G z10
  have m_dict := PySem.W.mg_none_of X G z11
  have m_max := PySem.W.mg_none_of X G z12
  have m_min := PySem.W.mg_none_of X G z13
  have m_set := PySem.W.mg_none_of X G z14
  have m_sorted := PySem.W.mg_none_of X G z15
  have m_zip := PySem.W.mg_none_of X G z16
  obtain ⟨d0, F0⟩ := a0.fn
  obtain ⟨d1, F1⟩ := a1.fn
  obtain ⟨d2, F2⟩ := a2.fn
  obtain ⟨d3, F3⟩ := a3.fn
  obtain ⟨d4, F4⟩ := a4.fn
  obtain ⟨d5, F5⟩ := a5.fn
  obtain ⟨d6, F6⟩ := a6.fn
  obtain ⟨d7, F7⟩ := a7.fn
  obtain ⟨d8, F8⟩ := a8.fn
  obtain ⟨d9, F9⟩ := a9.fn
  obtain ⟨d10, F10⟩ := a10.fn
  obtain ⟨d11, F11⟩ := a11.fn
  obtain ⟨d12, F12⟩ := a12.fn
  obtain ⟨d13, F13⟩ := a13.fn
  obtain ⟨d14, F14⟩ := a14.fn
  obtain ⟨d15, F15⟩ := a15.fn
  obtain ⟨d16, F16⟩ := a16.fn
  obtain ⟨d17, F17⟩ := a17.fn
  obtain ⟨d18, F18⟩ := a18.fn
  obtain ⟨d19, F19⟩ := a19.fn
  obtain ⟨d20, F20⟩ := a20.fn
  obtain ⟨d21, F21⟩ := a21.fn
  obtain ⟨d22, F22⟩ := a22.fn
  obtain ⟨d23, F23⟩ := a23.fn
  obtain ⟨d24, F24⟩ := a24.fn
  obtain ⟨d25, F25⟩ := a25.fn
  obtain ⟨d26, F26⟩ := a26.fn
  obtain ⟨d27, F27⟩ := a27.fn
  obtain ⟨d28, F28⟩ := a28.fn
  obtain ⟨d29, F29⟩ := a29.fn
  obtain ⟨d30, F30⟩ := a30.fn
  obtain ⟨d31, F31⟩ := a31.fn
  obtain ⟨d32, F32⟩ := a32.fn
  obtain ⟨d33, F33⟩ := a33.fn
  obtain ⟨d34, F34⟩ := a34.fn
  obtain ⟨d35, F35⟩ := a35.fn
  obtain ⟨d36, F36⟩ := a36.fn
  obtain ⟨d37, F37⟩ := a37.fn
  obtain ⟨d38, F38⟩ := a38.fn
  obtain ⟨d39, F39⟩ := a39.fn
  have g0 := PySem.W.mg_of X G a0.ns
  have g1 := PySem.W.mg_of X G a1.ns
  have g2 := PySem.W.mg_of X G a2.ns
  have g3 := PySem.W.mg_of X G a3.ns
  have g4 := PySem.W.mg_of X G a4.ns
  have g5 := PySem.W.mg_of X G a5.ns
  have g6 := PySem.W.mg_of X G a6.ns
  have g7 := PySem.W.mg_of X G a7.ns
  have g8 := PySem.W.mg_of X G a8.ns
  have g9 := PySem.W.mg_of X G a9.ns
  have g10 := PySem.W.mg_of X G a10.ns
  have g11 := PySem.W.mg_of X G a11.ns
  have g12 := PySem.W.mg_of X G a12.ns
  have g13 := PySem.W.mg_of X G a13.ns
  have g14 := PySem.W.mg_of X G a14.ns
  have g15 := PySem.W.mg_of X G a15.ns
  have g16 := PySem.W.mg_of X G a16.ns
  have g17 := PySem.W.mg_of X G a17.ns
  have g18 := PySem.W.mg_of X G a18.ns
  have g19 := PySem.W.mg_of X G a19.ns
  have g20 := PySem.W.mg_of X G a20.ns
  have g21 := PySem.W.mg_of X G a21.ns
  have g22 := PySem.W.mg_of X G a22.ns
  have g23 := PySem.W.mg_of X G a23.ns
  have g24 := PySem.W.mg_of X G a24.ns
  have g25 := PySem.W.mg_of X G a25.ns
  have g26 := PySem.W.mg_of X G a26.ns
  have g27 := PySem.W.mg_of X G a27.ns
  have g28 := PySem.W.mg_of X G a28.ns
  have g29 := PySem.W.mg_of X G a29.ns
  have g30 := PySem.W.mg_of X G a30.ns
  have g31 := PySem.W.mg_of X G a31.ns
  have g32 := PySem.W.mg_of X G a32.ns
  have g33 := PySem.W.mg_of X G a33.ns
  have g34 := PySem.W.mg_of X G a34.ns
  have g35 := PySem.W.mg_of X G a35.ns
  have g36 := PySem.W.mg_of X G a36.ns
  have g37 := PySem.W.mg_of X G a37.ns
  have g38 := PySem.W.mg_of X G a38.ns
  have hb0 : ∀ (s : Shared) (u : Value), BindsTo s d39 ⟨[u], []⟩ [("_law_script", u)] := by
    obtain ⟨oc, od, kV, doc, pm, an, cdv, ct, osl, rfl, _⟩ := F39.ex
    exact fun s u => .of_eq rfl
  refine ⟨d39, [(c5, P5), (c6, P6), (c8, P8), (c12, P12), (c13, P13), (c14, P14)], (spLaw K [P5, P6, P8, P12, P13, P14]), (List.forall_mem_cons.mpr ⟨a5.tab (t5 _ g5), (List.forall_mem_cons.mpr ⟨a6.tab (t6 _ g6), (List.forall_mem_cons.mpr ⟨a8.tab (t8 _ g8), (List.forall_mem_cons.mpr ⟨a12.tab (t12 _ g12), (List.forall_mem_cons.mpr ⟨a13.tab (t13 _ g13), (List.forall_mem_cons.mpr ⟨a14.tab (t14 _ g14), (fun p hp => by simp at hp)⟩)⟩)⟩)⟩)⟩)⟩), (List.forall_mem_cons.mpr ⟨a5.nP, (List.forall_mem_cons.mpr ⟨a6.nP, (List.forall_mem_cons.mpr ⟨a8.nP, (List.forall_mem_cons.mpr ⟨a12.nP, (List.forall_mem_cons.mpr ⟨a13.nP, (List.forall_mem_cons.mpr ⟨a14.nP, (fun p hp => by simp at hp)⟩)⟩)⟩)⟩)⟩)⟩), (List.forall_mem_cons.mpr ⟨a5.hd X, (List.forall_mem_cons.mpr ⟨a6.hd X, (List.forall_mem_cons.mpr ⟨a8.hd X, (List.forall_mem_cons.mpr ⟨a12.hd X, (List.forall_mem_cons.mpr ⟨a13.hd X, (List.forall_mem_cons.mpr ⟨a14.hd X, (fun p hp => by simp at hp)⟩)⟩)⟩)⟩)⟩)⟩), hb0, fun H a ns hl _ hT hS => ⟨a, ns, rfl, hS, hl, (List.forall_mem_cons.mpr ⟨⟨#[], hT (c5, P5) (by simp), by trivial⟩, (List.forall_mem_cons.mpr ⟨⟨#[], hT (c6, P6) (by simp), by trivial⟩, (List.forall_mem_cons.mpr ⟨⟨#[], hT (c8, P8) (by simp), by trivial⟩, (List.forall_mem_cons.mpr ⟨⟨#[], hT (c12, P12) (by simp), by trivial⟩, (List.forall_mem_cons.mpr ⟨⟨#[], hT (c13, P13) (by simp), by trivial⟩, (List.forall_mem_cons.mpr ⟨⟨#[], hT (c14, P14) (by simp), by trivial⟩, (fun p hp => by simp at hp)⟩)⟩)⟩)⟩)⟩)⟩), fun _ => rfl⟩, fun base KB GB TB => ?_⟩
  have tb5 := TB (c5, P5) (by simp)
  have tb6 := TB (c6, P6) (by simp)
  have tb8 := TB (c8, P8) (by simp)
  have tb12 := TB (c12, P12) (by simp)
  have tb13 := TB (c13, P13) (by simp)
  have tb14 := TB (c14, P14) (by simp)
  have D0 : Df l.prog w K mg base 1 "is_whole" ["thing"] spWhole := .of g0 F0 (ok_is_whole F0 M) fun _ _ _ _ _ _ us hl => match us, hl with | [_], _ => rfl
  have D1 : Df l.prog w K mg base 2 "is_whole_from" ["low", "thing"] spFrom := .of g1 F1 (ok_is_whole_from F1 D0) fun _ _ _ _ _ _ us hl => match us, hl with | [_, _], _ => rfl
  have D2 : Df l.prog w K mg base 2 "is_whole_below" ["limit", "thing"] spBelow := .of g2 F2 (ok_is_whole_below F2 D0) fun _ _ _ _ _ _ us hl => match us, hl with | [_, _], _ => rfl
  have D3 : Df l.prog w K mg base 3 "are_unlike_places" ["many", "one", "other"] spUnlikePl := .of g3 F3 (ok_are_unlike_places F3 D2) fun _ _ _ _ _ _ us hl => match us, hl with | [_, _, _], _ => rfl
  have D4 : Df l.prog w K mg base 1 "is_tuple_of" ["length", "thing"] spTupleOf := .of g4 F4 (ok_is_tuple_of F4 M) fun _ _ _ _ _ _ us hl => match us, hl with | [_, _], _ => rfl
  have D5 : Df l.prog w K mg base 4 "are_rising_below" ["limit", "thing"] (spRising [P5, P6, P8, P12, P13, P14]) := .of g5 F5.fn (ok_are_rising_below F5 ⟨tb5.code, tb5.bm, tb5.gP⟩ (show P5 ∈ [P5, P6, P8, P12, P13, P14] by simp) M m_all m_zip D2) fun _ _ _ _ _ _ us hl => match us, hl with | [_, _], _ => rfl
  have D6 : Df l.prog w K mg base 4 "are_unlike_below" ["limit", "thing"] (spUnlike [P5, P6, P8, P12, P13, P14]) := .of g6 F6.fn (ok_are_unlike F6 ⟨tb6.code, tb6.bm, tb6.gP⟩ (show P6 ∈ [P5, P6, P8, P12, P13, P14] by simp) M m_all m_set D2) fun _ _ _ _ _ _ us hl => match us, hl with | [_, _], _ => rfl
  have D7 : Df l.prog w K mg base 1 "joins" ["tie", "one", "other"] spJoins := .of g7 F7 (ok_joins F7) fun _ _ _ _ _ _ us hl => match us, hl with | [_, _, _], _ => rfl
  have D8 : Df l.prog w K mg base 5 "ring_holds" ["web", "thing"] (spRing [P5, P6, P8, P12, P13, P14]) := .of g8 F8.fn (ok_ring_holds F8 ⟨tb8.code, tb8.bm, tb8.gP⟩ (show P8 ∈ [P5, P6, P8, P12, P13, P14] by simp) M m_all m_zip D4 D6 D7) fun _ _ _ _ _ _ us hl => match us, hl with | [_, _], _ => rfl
  have D9 : Df l.prog w K mg base 1 "foes_in" ["web", "ring"] spFoes := .of g9 F9 (ok_foes_in F9 M) fun _ _ _ _ _ _ us hl => match us, hl with | [_, _], _ => rfl
  have D10 : Df l.prog w K mg base 6 "odd_ring_holds" ["web", "thing"] (spOdd [P5, P6, P8, P12, P13, P14]) := .of g10 F10 (ok_odd_ring F10 D8 D9) fun _ _ _ _ _ _ us hl => match us, hl with | [_, _], _ => rfl
  have D11 : Df l.prog w K mg base 1 "weight_of" ["weights", "tie"] spWeightOf := .of g11 F11 (ok_weight_of F11) fun _ _ _ _ _ _ us hl => match us, hl with | [_, _], _ => rfl
  have D12 : Df l.prog w K mg base 9 "is_ring_row" ["web", "limits", "given", "thing"] (spRingRow [P5, P6, P8, P12, P13, P14]) := .of g12 F12.fn (ok_is_ring_row F12 ⟨tb12.code, tb12.bm, tb12.gP⟩ (show P12 ∈ [P5, P6, P8, P12, P13, P14] by simp) M m_all D4 D10 D1) fun _ _ _ _ _ _ us hl => match us, hl with | [_, _, _, _], _ => rfl
  have D13 : Df l.prog w K mg base 11 "rings_show" ["web", "limits", "given", "rows"] (spRingsShow [P5, P6, P8, P12, P13, P14]) := .of g13 F13.fn (ok_rings_show F13 ⟨tb13.code, tb13.bm, tb13.gP⟩ (show P13 ∈ [P5, P6, P8, P12, P13, P14] by simp) M m_any D12) fun _ _ _ _ _ _ us hl => match us, hl with | [_, _, _, _], _ => rfl
  have D14 : Df l.prog w K mg base 6 "is_split_row" ["limits", "given", "taken", "thing"] (spSplitRow [P5, P6, P8, P12, P13, P14]) := .of g14 F14.fn (ok_is_split_row F14 ⟨tb14.code, tb14.bm, tb14.gP⟩ (show P14 ∈ [P5, P6, P8, P12, P13, P14] by simp) M m_all D5 D4) fun _ _ _ _ _ _ us hl => match us, hl with | [_, _, _, _], _ => rfl
  have D15 : Df l.prog w K mg base 1 "split_shows" ["web", "limits", "given", "rows"] (fun _ _ _ _ => False) := .of g15 F15 (⟨fun vs H Q E h => h.elim, fun B out z H ar us vs Q E _ _ _ _ h => h.elim⟩) fun _ _ _ _ _ _ us hl => match us, hl with | [_, _, _, _], _ => rfl
  have D16 : Df l.prog w K mg base 1 "case_shows" ["web", "limits", "given", "thing"] (fun _ _ _ _ => False) := .of g16 F16 (⟨fun vs H Q E h => h.elim, fun B out z H ar us vs Q E _ _ _ _ h => h.elim⟩) fun _ _ _ _ _ _ us hl => match us, hl with | [_, _, _, _], _ => rfl
  have D17 : Df l.prog w K mg base 50 "knot_shows" ["web", "limits", "given", "thing"] (spKnot [P5, P6, P8, P12, P13, P14] 15) := .of g17 F17 (ok_knots F17 F15 F16 M m_min g17 g15 g16 (F17.binds fun _ _ _ _ _ _ us hl => match us, hl with | [_, _, _, _], _ => rfl) (F15.binds fun _ _ _ _ _ _ us hl => match us, hl with | [_, _, _, _], _ => rfl) (F16.binds fun _ _ _ _ _ _ us hl => match us, hl with | [_, _, _, _], _ => rfl) D4 D13 D14 D3 15) fun _ _ _ _ _ _ us hl => match us, hl with | [_, _, _, _], _ => rfl
  have D18 : Df l.prog w K mg base 51 "shown_by" ["web", "weights", "thing"] (spShownBy [P5, P6, P8, P12, P13, P14] 14) := .of g18 F18 (ok_shown_by 14 F18 M D11 D17) fun _ _ _ _ _ _ us hl => match us, hl with | [_, _, _], _ => rfl
  have D19 : Df l.prog w K mg base 1 "_law_feed" ["_law_script"] (spDeck K) := .of g19 F19 (ok_l_feed F19 M) fun _ _ _ _ _ _ us hl => match us, hl with | [_], _ => rfl
  have D20 : Df l.prog w K mg base 1 "_law_draw" ["_law_feed_here", "_law_most"] spDraw := .of g20 F20 (ok_l_draw F20 M) fun _ _ _ _ _ _ us hl => match us, hl with | [_, _], _ => rfl
  have D21 : Df l.prog w K mg base 2 "_law_web" ["_law_feed_here", "_law_places", "_law_most"] spPWeb := .of g21 F21 (ok_l_web F21 M D20) fun _ _ _ _ _ _ us hl => match us, hl with | [_, _, _], _ => rfl
  have D22 : Df l.prog w K mg base 2 "_law_weights" ["_law_feed_here", "_law_many"] spPWeights := .of g22 F22 (ok_l_weights F22 M m_min D20) fun _ _ _ _ _ _ us hl => match us, hl with | [_, _], _ => rfl
  have D23 : Df l.prog w K mg base 1 "_law_weight" ["_law_weights_here", "_law_tie"] spLWeight := .of g23 F23 (ok_l_weight F23) fun _ _ _ _ _ _ us hl => match us, hl with | [_, _], _ => rfl
  have D24 : Df l.prog w K mg base 3 "_law_world" ["_law_feed_here", "_law_places", "_law_most"] spPWorld := .of g24 F24 (ok_l_world F24 M D21 D22) fun _ _ _ _ _ _ us hl => match us, hl with | [_, _, _], _ => rfl
  have D25 : Df l.prog w K mg base 1 "_law_way" ["_law_ties", "_law_numbers", "_law_begin", "_law_end"] spPWay := .of g25 F25 (ok_l_way F25 M) fun _ _ _ _ _ _ us hl => match us, hl with | [_, _, _, _], _ => rfl
  have D26 : Df l.prog w K mg base 2 "_law_turned" ["_law_feed_here", "_law_places", "_law_told_here"] spPTurned := .of g26 F26 (ok_l_turned F26 M D20) fun _ _ _ _ _ _ us hl => match us, hl with | [_, _, _], _ => rfl
  have D27 : Df l.prog w K mg base 3 "_law_rings" ["_law_feed_here", "_law_ties", "_law_numbers", "_law_wanted", "_law_most"] spPRings := .of g27 F27 (ok_l_rings F27 M m_max D20 D25 D26) fun _ _ _ _ _ _ us hl => match us, hl with | [_, _, _, _, _], _ => rfl
  have D28 : Df l.prog w K mg base 4 "_law_ring_rows" ["_law_feed_here", "_law_world_here", "_law_sure", "_law_given", "_law_most"] spPRows := .of g28 F28 (ok_l_ring_rows F28 M m_dict m_min D23 D27 D20) fun _ _ _ _ _ _ us hl => match us, hl with | [_, _, _, _, _], _ => rfl
  have D29 : Df l.prog w K mg base 9 "_law_paper" ["_law_feed_here", "_law_world_here", "_law_sure", "_law_given", "_law_deep"] (spPPaper 4) := .of g29 F29 (ok_l_paper F29 M g29 (F29.binds fun _ _ _ _ _ _ us hl => match us, hl with | [_, _, _, _, _], _ => rfl) D20 D28 4) fun _ _ _ _ _ _ us hl => match us, hl with | [_, _, _, _, _], _ => rfl
  have D30 : Df l.prog w K mg base 52 "_law_told" ["_law_world_here", "_law_thing"] (spTold [P5, P6, P8, P12, P13, P14] 14) := .of g30 F30 (ok_l_told 14 F30 M D18) fun _ _ _ _ _ _ us hl => match us, hl with | [_, _], _ => rfl
  have D31 : Df l.prog w K mg base 1 "_law_part" ["_law_thing", "_law_spot"] spPart := .of g31 F31 (ok_l_part F31) fun _ _ _ _ _ _ us hl => match us, hl with | [_, _], _ => rfl
  have D32 : Df l.prog w K mg base 2 "_law_spots" ["_law_thing"] spSpots := .of g32 F32 (ok_l_spots F32 M D31) fun _ _ _ _ _ _ us hl => match us, hl with | [_], _ => rfl
  have D33 : Df l.prog w K mg base 16 "_law_put" ["_law_thing", "_law_spot", "_law_part_here"] (spPutA 15) := .of g33 F33 (ok_l_putA F33 g33 (F33.binds fun _ _ _ _ _ _ us hl => match us, hl with | [_, _, _], _ => rfl) 15) fun _ _ _ _ _ _ us hl => match us, hl with | [_, _, _], _ => rfl
  have D34 : Df l.prog w K mg base 17 "_law_spoiled" ["_law_feed_here", "_law_thing", "_law_spot"] spSpoiled := .of g34 F34 (ok_l_spoiled F34 M m_max D31 D20 D33) fun _ _ _ _ _ _ us hl => match us, hl with | [_, _, _], _ => rfl
  have D35 : Df l.prog w K mg base 1 "_law_broken" ["_law_world_here", "_law_sides"] spBroken82 := .of g35 F35 (ok_l_broken F35 M) fun _ _ _ _ _ _ us hl => match us, hl with | [_, _], _ => rfl
  have D36 : Df l.prog w K mg base 2 "_law_least" ["_law_world_here"] spLeast82 := .of g36 F36 (ok_l_least F36 M D35 D23) fun _ _ _ _ _ _ us hl => match us, hl with | [_], _ => rfl
  have D37 : Df l.prog w K mg base 3 "_law_bounds" ["_law_feed_here", "_law_world_here"] spBounds82 := .of g37 F37 (ok_l_bounds F37 M D36 D20 D35 D23) fun _ _ _ _ _ _ us hl => match us, hl with | [_, _], _ => rfl
  have D38 : Df l.prog w K mg base 53 "_law_is_bound" ["_law_world_here", "_law_some", "_law_bounds_here"] (spIsBound [P5, P6, P8, P12, P13, P14] 14) := .of g38 F38 (ok_l_is_bound 14 F38 m_min D30) fun _ _ _ _ _ _ us hl => match us, hl with | [_, _, _], _ => rfl
  exact ok_law F39 M D19 D24 D37 D29 D30 D38 D32 D20 D34
end
end FF
open PySem PySem.W PyProof.Rows
set_option maxRecDepth 100000 in
set_option maxHeartbeats 0 in
theorem PySem.Challenge.cw_friendfoe_k82_whole_papers_show_no_more_holds : PySem.Challenge.rw_friendfoe_k82_whole_papers_show_no_more.Holds := by
  w_on; o_law; k_head; (case hw => w_witness2)
  k_fill
  refine FF.walk_tabs (l := PySem.Challenge.rw_friendfoe_k82_whole_papers_show_no_more) (n := 63) (k := 54) (x := "_law_script") rfl (by decide) rfl ⟨rfl, by decide, by decide⟩ (fun w h Y => PySem.W.kIn_of Y) ?F
  case F =>
    intro w mg fa h KX G hmg tabs
    refine' FF.law_at KX G hmg (fun fy => tabs "are_rising_below" fy ?r5) (fun fy => tabs "are_unlike_below" fy ?r6) (fun fy => tabs "ring_holds" fy ?r8) (fun fy => tabs "is_ring_row" fy ?r12) (fun fy => tabs "rings_show" fy ?r13) (fun fy => tabs "is_split_row" fy ?r14) ?a0 ?a1 ?a2 ?a3 ?a4 ?a5 ?a6 ?a7 ?a8 ?a9 ?a10 ?a11 ?a12 ?a13 ?a14 ?a15 ?a16 ?a17 ?a18 ?a19 ?a20 ?a21 ?a22 ?a23 ?a24 ?a25 ?a26 ?a27 ?a28 ?a29 ?a30 ?a31 ?a32 ?a33 ?a34 ?a35 ?a36 ?a37 ?a38 ?a39 ?z0 ?z1 ?z2 ?z3 ?z4 ?z5 ?z6 ?z7 ?z8 ?z9 ?z10 ?z11 ?z12 ?z13 ?z14 ?z15 ?z16 
    (case r5 => rfl)
    (case r6 => rfl)
    (case r8 => rfl)
    (case r12 => rfl)
    (case r13 => rfl)
    (case r14 => rfl)
    (case a0 => refine' FF.at_mk ?p1 ?p2 ?p3 ?p4; (case p1 => k_is); (case p2 => k_is); (case p3 => k_is); (case p4 => k_is))
    (case a1 => refine' FF.at_mk ?p1 ?p2 ?p3 ?p4; (case p1 => k_is); (case p2 => k_is); (case p3 => k_is); (case p4 => k_is))
    (case a2 => refine' FF.at_mk ?p1 ?p2 ?p3 ?p4; (case p1 => k_is); (case p2 => k_is); (case p3 => k_is); (case p4 => k_is))
    (case a3 => refine' FF.at_mk ?p1 ?p2 ?p3 ?p4; (case p1 => k_is); (case p2 => k_is); (case p3 => k_is); (case p4 => k_is))
    (case a4 => refine' FF.at_mk ?p1 ?p2 ?p3 ?p4; (case p1 => k_is); (case p2 => k_is); (case p3 => k_is); (case p4 => k_is))
    (case a5 => refine' FF.atC_mk ?p1 ?p2 ?p3 ?p4 ?p5 ?p6 ?p7 ?p8 ?p9 ?p10 ?p11 ?p12 ?p13; (case p1 => k_is); (case p2 => k_is); (case p3 => k_is); (case p4 => k_is); (case p5 => k_is); (case p6 => rfl); (case p7 => rfl); (case p8 => rfl); (case p9 => rfl); (case p10 => rfl); (case p11 => rfl); (case p12 => decide); (case p13 => rfl))
    (case a6 => refine' FF.atC_mk ?p1 ?p2 ?p3 ?p4 ?p5 ?p6 ?p7 ?p8 ?p9 ?p10 ?p11 ?p12 ?p13; (case p1 => k_is); (case p2 => k_is); (case p3 => k_is); (case p4 => k_is); (case p5 => k_is); (case p6 => rfl); (case p7 => rfl); (case p8 => rfl); (case p9 => rfl); (case p10 => rfl); (case p11 => rfl); (case p12 => decide); (case p13 => rfl))
    (case a7 => refine' FF.at_mk ?p1 ?p2 ?p3 ?p4; (case p1 => k_is); (case p2 => k_is); (case p3 => k_is); (case p4 => k_is))
    (case a8 => refine' FF.atC_mk ?p1 ?p2 ?p3 ?p4 ?p5 ?p6 ?p7 ?p8 ?p9 ?p10 ?p11 ?p12 ?p13; (case p1 => k_is); (case p2 => k_is); (case p3 => k_is); (case p4 => k_is); (case p5 => k_is); (case p6 => rfl); (case p7 => rfl); (case p8 => rfl); (case p9 => rfl); (case p10 => rfl); (case p11 => rfl); (case p12 => decide); (case p13 => rfl))
    (case a9 => refine' FF.at_mk ?p1 ?p2 ?p3 ?p4; (case p1 => k_is); (case p2 => k_is); (case p3 => k_is); (case p4 => k_is))
    (case a10 => refine' FF.at_mk ?p1 ?p2 ?p3 ?p4; (case p1 => k_is); (case p2 => k_is); (case p3 => k_is); (case p4 => k_is))
    (case a11 => refine' FF.at_mk ?p1 ?p2 ?p3 ?p4; (case p1 => k_is); (case p2 => k_is); (case p3 => k_is); (case p4 => k_is))
    (case a12 => refine' FF.atC_mk ?p1 ?p2 ?p3 ?p4 ?p5 ?p6 ?p7 ?p8 ?p9 ?p10 ?p11 ?p12 ?p13; (case p1 => k_is); (case p2 => k_is); (case p3 => k_is); (case p4 => k_is); (case p5 => k_is); (case p6 => rfl); (case p7 => rfl); (case p8 => rfl); (case p9 => rfl); (case p10 => rfl); (case p11 => rfl); (case p12 => decide); (case p13 => rfl))
    (case a13 => refine' FF.atC_mk ?p1 ?p2 ?p3 ?p4 ?p5 ?p6 ?p7 ?p8 ?p9 ?p10 ?p11 ?p12 ?p13; (case p1 => k_is); (case p2 => k_is); (case p3 => k_is); (case p4 => k_is); (case p5 => k_is); (case p6 => rfl); (case p7 => rfl); (case p8 => rfl); (case p9 => rfl); (case p10 => rfl); (case p11 => rfl); (case p12 => decide); (case p13 => rfl))
    (case a14 => refine' FF.atC_mk ?p1 ?p2 ?p3 ?p4 ?p5 ?p6 ?p7 ?p8 ?p9 ?p10 ?p11 ?p12 ?p13; (case p1 => k_is); (case p2 => k_is); (case p3 => k_is); (case p4 => k_is); (case p5 => k_is); (case p6 => rfl); (case p7 => rfl); (case p8 => rfl); (case p9 => rfl); (case p10 => rfl); (case p11 => rfl); (case p12 => decide); (case p13 => rfl))
    (case a15 => refine' FF.at_mk ?p1 ?p2 ?p3 ?p4; (case p1 => k_is); (case p2 => k_is); (case p3 => k_is); (case p4 => k_is))
    (case a16 => refine' FF.at_mk ?p1 ?p2 ?p3 ?p4; (case p1 => k_is); (case p2 => k_is); (case p3 => k_is); (case p4 => k_is))
    (case a17 => refine' FF.at_mk ?p1 ?p2 ?p3 ?p4; (case p1 => k_is); (case p2 => k_is); (case p3 => k_is); (case p4 => k_is))
    (case a18 => refine' FF.at_mk ?p1 ?p2 ?p3 ?p4; (case p1 => k_is); (case p2 => k_is); (case p3 => k_is); (case p4 => k_is))
    (case a19 => refine' FF.at_mk ?p1 ?p2 ?p3 ?p4; (case p1 => k_is); (case p2 => k_is); (case p3 => k_is); (case p4 => k_is))
    (case a20 => refine' FF.at_mk ?p1 ?p2 ?p3 ?p4; (case p1 => k_is); (case p2 => k_is); (case p3 => k_is); (case p4 => k_is))
    (case a21 => refine' FF.at_mk ?p1 ?p2 ?p3 ?p4; (case p1 => k_is); (case p2 => k_is); (case p3 => k_is); (case p4 => k_is))
    (case a22 => refine' FF.at_mk ?p1 ?p2 ?p3 ?p4; (case p1 => k_is); (case p2 => k_is); (case p3 => k_is); (case p4 => k_is))
    (case a23 => refine' FF.at_mk ?p1 ?p2 ?p3 ?p4; (case p1 => k_is); (case p2 => k_is); (case p3 => k_is); (case p4 => k_is))
    (case a24 => refine' FF.at_mk ?p1 ?p2 ?p3 ?p4; (case p1 => k_is); (case p2 => k_is); (case p3 => k_is); (case p4 => k_is))
    (case a25 => refine' FF.at_mk ?p1 ?p2 ?p3 ?p4; (case p1 => k_is); (case p2 => k_is); (case p3 => k_is); (case p4 => k_is))
    (case a26 => refine' FF.at_mk ?p1 ?p2 ?p3 ?p4; (case p1 => k_is); (case p2 => k_is); (case p3 => k_is); (case p4 => k_is))
    (case a27 => refine' FF.at_mk ?p1 ?p2 ?p3 ?p4; (case p1 => k_is); (case p2 => k_is); (case p3 => k_is); (case p4 => k_is))
    (case a28 => refine' FF.at_mk ?p1 ?p2 ?p3 ?p4; (case p1 => k_is); (case p2 => k_is); (case p3 => k_is); (case p4 => k_is))
    (case a29 => refine' FF.at_mk ?p1 ?p2 ?p3 ?p4; (case p1 => k_is); (case p2 => k_is); (case p3 => k_is); (case p4 => k_is))
    (case a30 => refine' FF.at_mk ?p1 ?p2 ?p3 ?p4; (case p1 => k_is); (case p2 => k_is); (case p3 => k_is); (case p4 => k_is))
    (case a31 => refine' FF.at_mk ?p1 ?p2 ?p3 ?p4; (case p1 => k_is); (case p2 => k_is); (case p3 => k_is); (case p4 => k_is))
    (case a32 => refine' FF.at_mk ?p1 ?p2 ?p3 ?p4; (case p1 => k_is); (case p2 => k_is); (case p3 => k_is); (case p4 => k_is))
    (case a33 => refine' FF.at_mk ?p1 ?p2 ?p3 ?p4; (case p1 => k_is); (case p2 => k_is); (case p3 => k_is); (case p4 => k_is))
    (case a34 => refine' FF.at_mk ?p1 ?p2 ?p3 ?p4; (case p1 => k_is); (case p2 => k_is); (case p3 => k_is); (case p4 => k_is))
    (case a35 => refine' FF.at_mk ?p1 ?p2 ?p3 ?p4; (case p1 => k_is); (case p2 => k_is); (case p3 => k_is); (case p4 => k_is))
    (case a36 => refine' FF.at_mk ?p1 ?p2 ?p3 ?p4; (case p1 => k_is); (case p2 => k_is); (case p3 => k_is); (case p4 => k_is))
    (case a37 => refine' FF.at_mk ?p1 ?p2 ?p3 ?p4; (case p1 => k_is); (case p2 => k_is); (case p3 => k_is); (case p4 => k_is))
    (case a38 => refine' FF.at_mk ?p1 ?p2 ?p3 ?p4; (case p1 => k_is); (case p2 => k_is); (case p3 => k_is); (case p4 => k_is))
    (case a39 => refine' FF.at_mk ?p1 ?p2 ?p3 ?p4; (case p1 => k_is); (case p2 => k_is); (case p3 => k_is); (case p4 => k_is))
    (case z0 => k_is)
    (case z1 => k_is)
    (case z2 => k_is)
    (case z3 => k_is)
    (case z4 => k_is)
    (case z5 => k_is)
    (case z6 => k_is)
    (case z7 => k_is)
    (case z8 => k_is)
    (case z9 => k_is)
    (case z10 => k_is)
    (case z11 => k_is)
    (case z12 => k_is)
    (case z13 => k_is)
    (case z14 => k_is)
    (case z15 => k_is)
    (case z16 => k_is)
