import PyProof.Rows.All
import Wide.All
import OpenK.AllK
import Wide.FinOn
import HandS.ForMost
import HandS.IsInst
import HandS.TupAny
import HandS.TupLe
import HandS.Wide
import HandS.Style
import HandS.SortInts
import HandS.Conv
import HandS.More
import HandS.EndTab
import HandS.EndOwn
import HandS.AnyAll
import HandS.GenOver
import HandS.Evl
import HandS.Walk
import HandS.NoneIn
import HandS.Zip
import HandS.DictComp
import HandS.SetFor
import KE.GoesEnum
import PySem.Challenge.RW_friendfoe_k22_stems
set_option Elab.async false
set_option linter.all false
set_option maxRecDepth 100000
namespace FF
open PySem PySem.Spec PyProof.Rows L2
/-! ### heaps: what is kept -/
/-- all that is tracked, but at d and c, is as it was -/
def Kp (d c : Addr) (H H' : Hp) : Prop := ∀ b o, b ≠ d → b ≠ c → H b = some o → H' b = some o
theorem Kp.refl {d c : Addr} {H : Hp} : Kp d c H H := fun _ _ _ _ h => h
theorem Kp.trans {d c : Addr} {H H1 H2 : Hp} (a : Kp d c H H1) (b : Kp d c H1 H2) : Kp d c H H2 := fun x o h1 h2 h => b x o h1 h2 (a x o h1 h2 h)
theorem Kp.at_d {d c : Addr} {H : Hp} {o : HO} : Kp d c H (upd H d o) := fun b u h1 _ h => by rw [upd_ne h1]; exact h
theorem Kp.at_c {d c : Addr} {H : Hp} {o : HO} : Kp d c H (upd H c o) := fun b u _ h2 h => by rw [upd_ne h2]; exact h
theorem Kp.new {d c p : Addr} {H : Hp} {o : HO} (hp : H p = none) : Kp d c H (upd H p o) := fun b u _ _ h => by rw [upd_ne (ne_of_none h hp)]; exact h
theorem same_new {H : Hp} {p : Addr} {o : HO} (h : H p = none) : Same H (upd H p o) := fun b x e => by
  rw [upd_ne (ne_of_none e h)]
  exact e
theorem Same.kp {d c : Addr} {H H' : Hp} (s : Same H H') : Kp d c H H' := fun b o _ _ h => s b o h
/-! ### defs as they are called -/
def Df (P : Program) (w : World) (K : PySem.W.Frag) (mg : Str → Option Value) (base : Heap) (k : Nat) (x : Str) (ps : List Str) (sp : Sp) : Prop :=
  ∃ (f : Addr) (fd : FuncData), FnOk P w K mg base CX0 k f fd ps sp ∧ mg x = some (.ref f) ∧ PySem.W.keepIn K (.ref f) = true ∧ Binds K fd ps []
/-- built-in names that the module has not taken -/
structure Free (mg : Str → Option Value) : Prop where
  len : mg "len" = none
  int : mg "int" = none
  bool : mg "bool" = none
  str : mg "str" = none
  list : mg "list" = none
  tuple : mg "tuple" = none
  range : mg "range" = none
  isinstance : mg "isinstance" = none
  sum : mg "sum" = none
/-! ### the well -/
structure Well (H : Hp) (d : Addr) (b : Nat) : Prop where
  ex : ∃ (g st : Int) (k : Nat), H d = some (.lst [.int g, .int st, .int k]) ∧ k ≤ b
theorem Well.same {H H' : Hp} {d : Addr} {b : Nat} (h : Well H d b) (s : Same H H') : Well H' d b := by
  obtain ⟨g, st, k, h1, h2⟩ := h
  exact ⟨g, st, k, s _ _ h1, h2⟩
theorem Well.mono {H : Hp} {d : Addr} {b b' : Nat} (h : Well H d b) (s : b ≤ b') : Well H d b' := by
  obtain ⟨g, st, k, h1, h2⟩ := h
  exact ⟨g, st, k, h1, Nat.le_trans h2 s⟩
theorem Well.mut {H : Hp} {d l : Addr} {o : HO} {b : Nat} (D : Well H d b) (h1 : l ≠ d) : Well (upd H l o) d b := by
  obtain ⟨g, st, k, e1, e2⟩ := D
  exact ⟨g, st, k, by rw [upd_ne (Ne.symm h1)]; exact e1, e2⟩
theorem Well.new {H : Hp} {d l : Addr} {o : HO} {b : Nat} (D : Well H d b) (h : H l = none) : Well (upd H l o) d b := D.same (same_new h)
theorem Well.ned {H : Hp} {d l : Addr} {b : Nat} (D : Well H d b) (h : H l = none) : l ≠ d := by
  obtain ⟨g, st, k, e1, e2⟩ := D
  exact (ne_of_none e1 h).symm
theorem mod_rng {a m : Int} (h : 0 < m) : 0 ≤ a % m ∧ a % m < m := ⟨Int.emod_nonneg a (by omega), Int.emod_lt_of_pos a h⟩
/-- a draw below m: any number from 0 on, less than m; one draw more -/
def spDraw : Sp := fun vs H Q _ => ∃ (d : Addr) (b : Nat) (m : Int), vs = [.ref d, .int m] ∧ Well H d b ∧ b < 2 ^ 60 ∧ 0 < m ∧ m.natAbs < 2 ^ 120 ∧
  ∀ v H', 0 ≤ v → v < m → Well H' d (b + 1) → Kp d d H H' → Q (.int v) H'
def topS (i : Nat) : Stmt := PySem.Challenge.pw_friendfoe_k22_stems.main.body.getD i (.Pass ⟨0, 0, 0, 0⟩)
abbrev s_stems : Stmt := topS 1
abbrev N_stems : List Str := ["web", "labels", "numbers", "number", "one", "other", "kind", "old", "new", "label"]
theorem sc_stems : FnScope N_stems ["web"] (defScope s_stems) := ⟨rfl, rfl, rfl, by decide +kernel, rfl, by decide +kernel, by decide +kernel⟩
abbrev s_l_well : Stmt := topS 3
abbrev N_l_well : List Str := ["_law_script", "_law_k", "_law_cell", "_law_great"]
theorem sc_l_well : FnScope N_l_well ["_law_script", "_law_k"] (defScope s_l_well) := ⟨rfl, rfl, rfl, by decide +kernel, rfl, by decide +kernel, by decide +kernel⟩
abbrev s_l_draw : Stmt := topS 4
abbrev N_l_draw : List Str := ["_law_well_here", "_law_most", "_law_digit", "_law_number"]
theorem sc_l_draw : FnScope N_l_draw ["_law_well_here", "_law_most"] (defScope s_l_draw) := ⟨rfl, rfl, rfl, by decide +kernel, rfl, by decide +kernel, by decide +kernel⟩
abbrev s_l_web : Stmt := topS 5
abbrev N_l_web : List Str := ["_law_well_here", "_law_great", "_law_many", "_law_ties", "_law_k", "_law_one", "_law_other", "_law_kind"]
theorem sc_l_web : FnScope N_l_web ["_law_well_here"] (defScope s_l_web) := ⟨rfl, rfl, rfl, by decide +kernel, rfl, by decide +kernel, by decide +kernel⟩
abbrev s_l_places : Stmt := topS 6
abbrev N_l_places : List Str := ["_law_well_here", "_law_many", "_law_way", "_law_place"]
theorem sc_l_places : FnScope N_l_places ["_law_well_here", "_law_many"] (defScope s_l_places) := ⟨rfl, rfl, rfl, by decide +kernel, rfl, by decide +kernel, by decide +kernel⟩
abbrev s_l_about : Stmt := topS 7
abbrev N_l_about : List Str := ["_law_web_here", "_law_places_here", "_law_other", "_law_ties", "_law_tie"]
theorem sc_l_about : FnScope N_l_about ["_law_web_here", "_law_places_here"] (defScope s_l_about) := ⟨rfl, rfl, rfl, by decide +kernel, rfl, by decide +kernel, by decide +kernel⟩
abbrev s_l_same : Stmt := topS 8
abbrev N_l_same : List Str := ["_law_found", "_law_due", "_law_one", "_law_other"]
theorem sc_l_same : FnScope N_l_same ["_law_found", "_law_due"] (defScope s_l_same) := ⟨rfl, rfl, rfl, by decide +kernel, rfl, by decide +kernel, by decide +kernel⟩
abbrev s_l_groups : Stmt := topS 9
abbrev N_l_groups : List Str := ["_law_many", "_law_ties", "_law_heads", "_law_tie", "_law_here", "_law_there", "_law_place"]
theorem sc_l_groups : FnScope N_l_groups ["_law_many", "_law_ties"] (defScope s_l_groups) := ⟨rfl, rfl, rfl, by decide +kernel, rfl, by decide +kernel, by decide +kernel⟩
abbrev s_l_stems : Stmt := topS 10
abbrev N_l_stems : List Str := ["_law_web_here", "_law_beside", "_law_place", "_law_found", "_law_number", "_law_tie", "_law_come", "_law_seen", "_law_there"]
theorem sc_l_stems : FnScope N_l_stems ["_law_web_here"] (defScope s_l_stems) := ⟨rfl, rfl, rfl, by decide +kernel, rfl, by decide +kernel, by decide +kernel⟩
abbrev s_law : Stmt := topS 11
abbrev N_law : List Str := ["_law_script", "_law_k", "_law_well_here", "_law_web_here", "_law_due", "_law_heads", "_law_place", "_law_friends", "_law_tie", "_law_around", "_law_other", "_law_number"]
theorem sc_law : FnScope N_law ["_law_script"] (defScope s_law) := ⟨rfl, rfl, rfl, by decide +kernel, rfl, by decide +kernel, by decide +kernel⟩
/-! ### own rules: a list against [] -/
section
variable {X : Cx}
def rEqE (K : PySem.W.Frag) : R2 := fun x y H Q => ∃ (a b : Addr) (xs : List V), x = .ref a ∧ y = .ref b ∧ SqL K H a xs ∧ SqL K H b [] ∧ Q (.bl xs.isEmpty) H
def rNeE (K : PySem.W.Frag) : R2 := fun x y H Q => ∃ (a b : Addr) (xs : List V), x = .ref a ∧ y = .ref b ∧ SqL K H a xs ∧ SqL K H b [] ∧ Q (.bl (!xs.isEmpty)) H
theorem op_eqE (hu : X.A.units < cLine) : OpR X (compareOp .Eq) (rEqE X.K) := by
  intro pins s σ H x y v u Q I rx ry h
  obtain ⟨a, b, xs, rfl, rfl, ha, hb, q⟩ := h
  obtain rfl : v = Value.ref a := rx
  obtain rfl : u = Value.ref b := ry
  obtain ⟨its, r1, p1, _⟩ := I.list ha
  obtain ⟨its2, r2, p2, _⟩ := I.list hb
  cases r2
  cases xs with
  | nil =>
    cases r1
    exact SeqAt.eq_listAt (e := fun _ => true) p1.isList p2.isList rfl hu (fun j h1 _ => absurd h1 (by simp)) ⟨.bl true, H, I, rfl, q⟩
  | cons z zs =>
    cases r1 with
    | cons r t => exact SeqAt.eq_list_lengthsAt p1.isList p2.isList (by simp) hu ⟨.bl false, H, I, rfl, q⟩
theorem op_neE (hu : X.A.units < cLine) : OpR X (compareOp .NotEq) (rNeE X.K) := by
  intro pins s σ H x y v u Q I rx ry h
  obtain ⟨a, b, xs, rfl, rfl, ha, hb, q⟩ := h
  obtain rfl : v = Value.ref a := rx
  obtain rfl : u = Value.ref b := ry
  obtain ⟨its, r1, p1, _⟩ := I.list ha
  obtain ⟨its2, r2, p2, _⟩ := I.list hb
  cases r2
  cases xs with
  | nil =>
    cases r1
    exact SeqAt.RcNeAt.lists (e := fun _ => true) p1.isList p2.isList rfl hu (fun j h1 _ => absurd h1 (by simp)) _ _ _ _ ⟨.bl false, H, I, rfl, q⟩
  | cons z zs =>
    cases r1 with
    | cons r t => exact SeqAt.RcNeAt.lists_lengths p1.isList p2.isList (by simp) hu _ _ _ _ ⟨.bl true, H, I, rfl, q⟩
end
section
variable {P : Program} {w : World} {K : PySem.W.Frag} {mg : Str → Option Value} {base : Heap}
/-! ### webs -/
structure Tie where
  one : Int
  other : Int
  foe : Bool
def kindS : Bool → Str
  | true => "foe"
  | false => "friend"
def TieV (H : Hp) (v : V) (t : Tie) : Prop := ∃ a, v = .ref a ∧ H a = some (.tup [.int t.one, .int t.other, .str (kindS t.foe)])
def TieOk (n : Int) (t : Tie) : Prop := 0 ≤ t.one ∧ t.one < n ∧ 0 ≤ t.other ∧ t.other < n ∧ t.one ≠ t.other
def WebAt (H : Hp) (v : V) (n : Int) (ts : List Tie) : Prop := ∃ a b vs, v = .ref a ∧ H a = some (.tup [.int n, .ref b]) ∧ H b = some (.tup vs) ∧ Paired (TieV H) vs ts
structure WebOk (n : Int) (ts : List Tie) : Prop where
  lo : 1 ≤ n
  hi : n ≤ 40
  few : ts.length ≤ 120
  ok : ∀ t ∈ ts, TieOk n t
/-- tuples stay -/
def Tk (H H' : Hp) : Prop := ∀ b xs, H b = some (.tup xs) → H' b = some (.tup xs)
theorem Tk.trans {H H1 H2 : Hp} (a : Tk H H1) (b : Tk H1 H2) : Tk H H2 := fun x xs h => b x xs (a x xs h)
theorem Same.tk {H H' : Hp} (s : Same H H') : Tk H H' := fun b xs h => s b _ h
theorem tk_lst {H : Hp} {l : Addr} {xs ys : List V} (h : H l = some (.lst xs)) : Tk H (upd H l (.lst ys)) := fun b zs e => by
  rw [upd_ne (ne_of e h (by intro z; cases z))]
  exact e
theorem TieV.tk {H H' : Hp} (k : Tk H H') {v : V} {t : Tie} (h : TieV H v t) : TieV H' v t := by
  obtain ⟨a, rfl, e⟩ := h
  exact ⟨a, rfl, k _ _ e⟩
theorem ties_tk {H H' : Hp} (k : Tk H H') {vs : List V} {ts : List Tie} (h : Paired (TieV H) vs ts) : Paired (TieV H') vs ts := Paired.mono (fun _ _ x => x.tk k) h
theorem WebAt.tk {H H' : Hp} (k : Tk H H') {v : V} {n : Int} {ts : List Tie} (h : WebAt H v n ts) : WebAt H' v n ts := by
  obtain ⟨a, b, vs, rfl, h1, h2, h3⟩ := h
  exact ⟨a, b, vs, rfl, k _ _ h1, k _ _ h2, ties_tk k h3⟩
theorem Kp.tk {d : Addr} {b : Nat} {H H' : Hp} (k : Kp d d H H') (D : Well H d b) : Tk H H' := fun c xs e => by
  obtain ⟨g, st, n, h1, h2⟩ := D
  have ne := ne_of e h1 (by intro z; cases z)
  exact k c _ ne ne e
theorem Kp.mut {d c l : Addr} {H H' : Hp} {o : HO} (k : Kp d c H H') (h : H l = none) : Kp d c H (upd H' l o) := fun b u h1 h2 e => by
  rw [upd_ne (ne_of_none e h)]
  exact k b u h1 h2 e
theorem Paired.at {α β : Type} {F : α → β → Prop} : ∀ {l : List α} {m : List β} {i : Nat} {a : α}, Paired F l m → l[i]? = some a → ∃ b, m[i]? = some b ∧ F a b
  | _, _, _, _, .nil, e => by simp at e
  | _, _, 0, _, .cons r _, e => by simp at e; subst e; exact ⟨_, rfl, r⟩
  | _, _, i + 1, a, .cons _ t, e => by
    obtain ⟨u, h1, h2⟩ := Paired.at (i := i) (a := a) t (by simpa using e)
    exact ⟨u, by simpa using h1, h2⟩
theorem Paired.at' {α β : Type} {F : α → β → Prop} : ∀ {l : List α} {m : List β} {i : Nat} {b : β}, Paired F l m → m[i]? = some b → ∃ a, l[i]? = some a ∧ F a b
  | _, _, _, _, .nil, e => by simp at e
  | _, _, 0, _, .cons r _, e => by simp at e; subst e; exact ⟨_, rfl, r⟩
  | _, _, i + 1, b, .cons _ t, e => by
    obtain ⟨u, h1, h2⟩ := Paired.at' (i := i) (b := b) t (by simpa using e)
    exact ⟨u, by simpa using h1, h2⟩
theorem getI {α : Type} {xs : List α} {i : Int} (h0 : 0 ≤ i) (h1 : i < (xs.length : Int)) : ∃ v, atI xs i = some v ∧ xs[i.toNat]? = some v := by
  obtain ⟨j, rfl⟩ : ∃ j : Nat, i = (j : Int) := ⟨i.toNat, by omega⟩
  have h2 : j < xs.length := by omega
  exact ⟨xs[j], atI_nat (List.getElem?_eq_getElem h2), by rw [Int.toNat_natCast]; exact List.getElem?_eq_getElem h2⟩
theorem other_ne {n a b : Int} (h0 : 0 ≤ a) (h1 : a < n) (g0 : 0 ≤ b) (g1 : b < n - 1) : a ≠ (a + 1 + b) % n := by
  by_cases h : a + 1 + b < n
  · rw [Int.emod_eq_of_lt (by omega) h]
    omega
  · have e : a + 1 + b = (a + 1 + b - n) + 1 * n := by omega
    rw [e, Int.add_mul_emod_self_right, Int.emod_eq_of_lt (by omega) (by omega)]
    omega
theorem pick2 {α : Type} (a b : α) (k : Bool) : atI [a, b] (if k then 1 else 0) = some (if k then b else a) := by
  cases k <;> rfl
def spWeb : Sp := fun vs H Q _ => ∃ (d : Addr) (b : Nat), vs = [.ref d] ∧ Well H d b ∧ b < 2 ^ 50 ∧
  ∀ v n ts H', WebAt H' v n ts → WebOk n ts → Well H' d (b + 1000) → Kp d d H H' → Q v H'
theorem Kp.free {d c l : Addr} {H H' : Hp} (k : Kp d c H H') (h : H' l = none) (h1 : l ≠ d) (h2 : l ≠ c) : H l = none := by
  cases e : H l with
  | none => rfl
  | some o =>
    rw [k l o h1 h2 e] at h
    cases h
theorem atI_of {xs : List V} {i : Int} {v : V} (h0 : 0 ≤ i) (e : xs[i.toNat]? = some v) : atI xs i = some v := by
  obtain ⟨j, rfl⟩ : ∃ j : Nat, i = (j : Int) := ⟨i.toNat, by omega⟩
  exact atI_nat (by rw [Int.toNat_natCast] at e; exact e)
theorem atI_ints {xs : List Int} {i : Int} (h0 : 0 ≤ i) (h1 : i < xs.length) : ∃ x ∈ xs, xs[i.toNat]? = some x ∧ atI (xs.map V.int) i = some (.int x) := by
  have h : i.toNat < xs.length := by omega
  exact ⟨xs[i.toNat], List.getElem_mem h, List.getElem?_eq_getElem h, atI_of h0 (by rw [List.getElem?_map, List.getElem?_eq_getElem h]; rfl)⟩
theorem at0 {α : Type} (x : α) (xs : List α) : atI (x :: xs) 0 = some x := atI_nat (j := 0) rfl
theorem ix0 (n : Nat) : ixN (n + 1) 0 = some 0 := by
  unfold ixN
  rw [if_pos (by decide), if_pos (by omega)]
  rfl
/-! ### a draw -/
theorem ok_l_draw {f : Addr} {fd : FuncData} (F : Fun K "_law_draw" "_law_draw" s_l_draw f fd) : FnOk P w K mg base CX0 1 f fd ["_law_well_here", "_law_most"] spDraw := by
  refine F.ok sc_l_draw (fun vs H Q E h => ?_) (fun cdv A outer s H vs Q E hr h => ?_)
  · obtain ⟨d, b, m, rfl, _⟩ := h
    rfl
  · obtain ⟨d, b, m, rfl, hD, hB, hm, hb, q⟩ := h
    obtain ⟨g, st, n, hd, hn⟩ := hD
    refine ⟨_, (pss_cons (ps_if (pt_cmpR op_gt (pe_ix ix_list (pv 0) pe_int (fun _ _ => rfl)) pe_int (nomark _))
        (pss_cons (ps_set (i := 2) sc_l_draw.nd rfl (.inl rfl) (pe_op op_mod (pe_ix ix_list (pv 0) pe_int (fun _ _ => rfl)) (pv 1)))
        (pss_cons (ps_asg (pe_op op_fdivW (pe_ix ix_list (pv 0) pe_int (fun _ _ => rfl)) (pv 1)) (pg_sub (pv 0) pe_int set_list))
        (pss_one (ps_ret (pv 2)))))
        pss_nil)
      (pss_cons (ps_asg (pe_op op_add (pe_ix ix_list (pv 0) pe_int (fun _ _ => rfl)) pe_int) (pg_sub (pv 0) pe_int set_list))
      (Evl.pss_cut (ps_set (i := 3) sc_l_draw.nd rfl (.inl rfl) (pe_op op_mod (pe_op op_mul (pe_op op_add (pe_ix ix_list (pv 0) pe_int (fun _ _ => rfl)) (pe_op op_mul (pe_op op_mul pe_int (pe_ix ix_list (pv 0) pe_int (fun _ _ => rfl))) (pe_ix ix_list (pv 0) pe_int (fun _ _ => rfl)))) pe_int) pe_int))
      (Evl.pss_cut (ps_set (i := 3) sc_l_draw.nd rfl (.inl rfl) (pe_op op_mod (pe_op op_add (pe_op op_add (pe_op op_mul (pv 3) (pv 3)) (pe_op op_mul pe_int (pv 3))) pe_int) pe_int))
      (pss_one (ps_ret (pe_op op_mod (pe_op op_fdiv (pe_op op_mod (pe_op op_add (pe_op op_mul (pv 3) (pv 3)) pe_int) pe_int) pe_int) (pv 1)))))))), ?_⟩
    refine ⟨.ref d, rfl, d, _, 0, .int g, rfl, rfl, SqL.of hd, rfl, g, 0, rfl, rfl, _, rfl, ite2 (fun _ => ?_) (fun _ => ?_)⟩
    · refine ⟨.ref d, rfl, d, _, 0, .int g, rfl, rfl, SqL.of hd, rfl, .int m, rfl, g, m, rfl, rfl, hm, ?_⟩
      refine ⟨.ref d, rfl, d, _, 0, .int g, rfl, rfl, SqL.of hd, rfl, .int m, rfl, g, m, rfl, rfl, wide_div hm hb (by decide) (by decide), .ref d, rfl, d, _, 0, 0, rfl, rfl, hd, rfl, ?_⟩
      exact ⟨.int (g % m), rfl, q _ _ (mod_rng hm).1 (mod_rng hm).2 ⟨g / m, st, n, by rw [upd_same]; rfl, by omega⟩ Kp.at_d⟩
    · refine ⟨.ref d, rfl, d, _, 2, .int n, rfl, rfl, SqL.of hd, rfl, n, 1, rfl, rfl, .ref d, rfl, d, _, 2, 2, rfl, rfl, hd, rfl, ?_⟩
      have hd2 : (upd H d (.lst ([V.int g, V.int st, V.int n].set 2 (.int (n + 1))))) d = some (.lst [.int g, .int st, .int ((n + 1 : Nat) : Int)]) := by rw [upd_same]; rfl
      have k2 : Kp d d H (upd H d (.lst ([V.int g, V.int st, V.int n].set 2 (.int (n + 1))))) := Kp.at_d
      generalize upd H d (.lst ([V.int g, V.int st, V.int n].set 2 (.int (n + 1)))) = H2 at hd2 k2
      refine ⟨fun σ' H5 => ∃ N : Int, σ' = [some (.ref d), some (.int m), none, some (.int N)] ∧ 0 ≤ N ∧ N < 2147483647 ∧ H5 = H2, ?_, ?_⟩
      · exact ⟨.ref d, rfl, d, _, 1, .int st, rfl, rfl, SqL.of hd2, rfl, .ref d, rfl, d, _, 2, _, rfl, rfl, SqL.of hd2, rfl, 7919, _, rfl, rfl, .inl ⟨by decide, by decide⟩, .ref d, rfl, d, _, 2, _, rfl, rfl, SqL.of hd2, rfl, _, _, rfl, rfl, .inr ⟨by omega, by omega⟩, _, _, rfl, rfl, _, 48271, rfl, rfl, .inr ⟨by decide, by decide⟩, _, 2147483647, rfl, rfl, show (0 : Int) < 2147483647 by decide, _, rfl, (mod_rng (by decide)).1, (mod_rng (by decide)).2, rfl⟩
      rintro σ' H5 ⟨N, rfl, hN0, hN1, rfl⟩
      refine ⟨fun σ' H6 => ∃ M : Int, σ' = [some (.ref d), some (.int m), none, some (.int M)] ∧ 0 ≤ M ∧ M < 2147483629 ∧ H6 = H5, ?_, ?_⟩
      · exact ⟨.int N, rfl, .int N, rfl, N, N, rfl, rfl, .inl ⟨by omega, by omega⟩, .int N, rfl, 69621, N, rfl, rfl, .inl ⟨by decide, by decide⟩, _, _, rfl, rfl, _, 7, rfl, rfl, _, 2147483629, rfl, rfl, show (0 : Int) < 2147483629 by decide, _, rfl, (mod_rng (by decide)).1, (mod_rng (by decide)).2, rfl⟩
      rintro σ' H6 ⟨M, rfl, hM0, hM1, rfl⟩
      refine ⟨.int M, rfl, .int M, rfl, M, M, rfl, rfl, .inl ⟨by omega, by omega⟩, _, 16807, rfl, rfl, _, 2147483587, rfl, rfl, show (0 : Int) < 2147483587 by decide, _, 64, rfl, rfl, ⟨by decide, by decide⟩, .int m, rfl, _, m, rfl, rfl, hm, ?_⟩
      exact q _ _ (mod_rng hm).1 (mod_rng hm).2 ⟨g, st, n + 1, hd2, by omega⟩ k2
/-! ### the well is laid -/
theorem cutV_len (xs : List V) : (cutV xs none (some 63)).length ≤ xs.length := by
  unfold cutV
  rw [List.length_take, List.length_drop]
  omega
def spWell (K : PySem.W.Frag) : Sp := fun vs H Q _ => ∃ (a : Addr) (ns : List Int) (k : Nat), vs = [.ref a, .int k] ∧ SqL K H a (ns.map V.int) ∧ k < 1000 ∧
  ∀ d H', Same H H' → H d = none → Well H' d 3 → Q (.ref d) H'
theorem ok_l_well {f : Addr} {fd : FuncData} (F : Fun K "_law_well" "_law_well" s_l_well f fd) (M : Free mg) : FnOk P w K mg base CX0 1 f fd ["_law_script", "_law_k"] (spWell K) := by
  refine F.ok sc_l_well (fun vs H Q E h => ?_) (fun cdv A outer s H vs Q E hr h => ?_)
  · obtain ⟨a, ns, k, rfl, _⟩ := h
    rfl
  · obtain ⟨a, ns, k, rfl, hS, hk, q⟩ := h
    refine ⟨_, (pss_cons (ps_set (i := 2) sc_l_well.nd rfl (.inl rfl) pe_int)
      (Evl.pss_cut (ps_if (pt_cmpR op_lt (pv 1) (pe_callB call_len_seq (by rfl) M.len PySem.boot_len (pa_cons (pe_slice sl_list (pv 0) po_none (po_some pe_int)) pa_nil)) (nomark _))
        (pss_one (ps_set (i := 2) sc_l_well.nd rfl (.inl rfl) (pe_ix ix_list (pv 0) (pv 1) (fun _ _ => rfl))))
        pss_nil)
      (pss_cons (ps_set (i := 3) sc_l_well.nd rfl (.inl rfl) pe_int)
      (Evl.pss_cut (ps_if (pt_cmpR op_ge (pv 2) (pe_op op_pow pe_int pe_int) (nomark _))
        (pss_one (ps_set (i := 3) sc_l_well.nd rfl (.inl rfl) (pv 2)))
        pss_nil)
      (pss_one (ps_ret (pe_lst (pa_cons (pv 3) (pa_cons (pe_op op_mod (pe_op op_add (pe_op op_add (pv 2) (pe_op op_mul (pe_op op_mul pe_int (pv 1)) (pv 1))) pe_int) pe_int) (pa_cons pe_int pa_nil)))))))))), ?_⟩
    refine ⟨fun σ' H' => ∃ x : Int, σ' = [some (.ref a), some (.int k), some (.int x), none] ∧ Same H H', ?_, ?_⟩
    · refine ⟨.int k, rfl, .ref a, rfl, 63, rfl, a, _, rfl, hS, fun p np => ⟨p, _, rfl, .inl (SqL.of upd_same), k, _, rfl, rfl, _, rfl, ite2 (fun e => ?_) (fun e => ?_)⟩⟩
      · have hlt := of_decide_eq_true e
        have h2 := cutV_len (ns.map V.int)
        rw [List.length_map] at h2
        obtain ⟨x, _, _, hx⟩ := atI_ints (xs := ns) (i := k) (by omega) (by omega)
        exact ⟨.ref a, rfl, .int k, rfl, a, _, k, _, rfl, rfl, (same_new np).seq hS, hx, x, rfl, same_new np⟩
      · exact ⟨0, rfl, same_new np⟩
    rintro σ' H1 ⟨x, rfl, s1⟩
    refine ⟨fun σ' H' => ∃ y : Int, σ' = [some (.ref a), some (.int k), some (.int x), some (.int y)] ∧ H' = H1, ?_, ?_⟩
    · refine ⟨.int x, rfl, 10, 18, rfl, rfl, ⟨by decide, by decide, by decide⟩, x, _, rfl, rfl, _, rfl, ite2 (fun _ => ?_) (fun _ => ?_)⟩
      · exact ⟨.int x, rfl, x, rfl, rfl⟩
      · exact ⟨0, rfl, rfl⟩
    rintro σ' H2 ⟨y, rfl, rfl⟩
    refine ⟨.int y, rfl, .int x, rfl, .int k, rfl, 7919, k, rfl, rfl, .inl ⟨by decide, by decide⟩, .int k, rfl, _, k, rfl, rfl, .inr ⟨by omega, by omega⟩, _, _, rfl, rfl, _, 48271, rfl, rfl, _, 2147483629, rfl, rfl, show (0 : Int) < 2147483629 by decide, by show 3 ≤ sizeLine; decide, fun d nd => ?_⟩
    exact q d _ (s1.trans (same_new nd)) (s1.free nd) ⟨y, _, 3, upd_same, Nat.le_refl _⟩
theorem ok_l_web {f : Addr} {fd : FuncData} (F : Fun K "_law_web" "_law_web" s_l_web f fd) (M : Free mg) (Dd : Df P w K mg base 1 "_law_draw" ["_law_well_here", "_law_most"] spDraw) : FnOk P w K mg base CX0 2 f fd ["_law_well_here"] spWeb := by
  obtain ⟨fD, fdD, GD, gD, kD, bD⟩ := Dd
  refine F.ok sc_l_web (fun vs H Q E h => ?_) (fun cdv A outer s H vs Q E hr h => ?_)
  · obtain ⟨d, b, rfl, _⟩ := h
    rfl
  · obtain ⟨d, b, rfl, hD, hB, q⟩ := h
    refine ⟨_, (Evl.pss_cut (ps_set (i := 1) sc_l_web.nd rfl (.inl rfl) (pe_callTy call_int1 (by rfl) M.int (by decide +kernel) (pa_cons (pe_cmpR op_eq (pe_call GD hr (by rfl) gD kD bD .nil pass0 (pa_cons (pv 0) (pa_cons pe_int pa_nil))) pe_int (nomark _)) pa_nil)))
      (Evl.pss_cut (ps_set (i := 2) sc_l_web.nd rfl (.inl rfl) (pe_op op_add pe_int (pe_call GD hr (by rfl) gD kD bD .nil pass0 (pa_cons (pv 0) (pa_cons (pe_ix ix_list (pe_lst (pa_cons pe_int (pa_cons pe_int pa_nil))) (pv 1) (fun _ _ => rfl)) pa_nil)))))
      (pss_cons (ps_set (i := 3) sc_l_web.nd rfl (.inl rfl) (pe_lst pa_nil))
      (pss_cons (ps_for PassesOwn.never rfl (pi_range1 (by rfl) M.range (pa_cons (pe_op op_mul (pe_call GD hr (by rfl) gD kD bD .nil pass0 (pa_cons (pv 0) (pa_cons (pe_ix ix_list (pe_lst (pa_cons pe_int (pa_cons pe_int pa_nil))) (pv 1) (fun _ _ => rfl)) pa_nil))) (pe_callTy call_int1 (by rfl) M.int (by decide +kernel) (pa_cons (pe_cmpR op_gt (pv 2) pe_int (nomark _)) pa_nil))) pa_nil)) (pg_name (i := 4) sc_l_web.nd rfl (.inl rfl))
        (pss_cons (ps_set (i := 5) sc_l_web.nd rfl (.inl rfl) (pe_call GD hr (by rfl) gD kD bD .nil pass0 (pa_cons (pv 0) (pa_cons (pv 2) pa_nil))))
        (pss_cons (ps_set (i := 6) sc_l_web.nd rfl (.inl rfl) (pe_op op_mod (pe_op op_add (pe_op op_add (pv 5) pe_int) (pe_call GD hr (by rfl) gD kD bD .nil pass0 (pa_cons (pv 0) (pa_cons (pe_op op_sub (pv 2) pe_int) pa_nil)))) (pv 2)))
        (Evl.pss_cut (ps_if (PW.pt (pw_and (pt_cmpR (op_neE hr.units0) (pv 3) (pe_lst pa_nil) (nomark _)) (pw_and1 (pt_cmpR op_eq (pe_call GD hr (by rfl) gD kD bD .nil pass0 (pa_cons (pv 0) (pa_cons pe_int pa_nil))) pe_int (nomark _)))))
          (pss_cons (ps_asg (pe_ix ix_list (pv 3) (pe_call GD hr (by rfl) gD kD bD .nil pass0 (pa_cons (pv 0) (pa_cons (pe_callB call_len_seq (by rfl) M.len PySem.boot_len (pa_cons (pv 3) pa_nil)) pa_nil))) (fun _ _ => rfl)) (pg_tup rfl (pgs_cons (pg_name (i := 5) sc_l_web.nd rfl (.inl rfl)) (pgs_cons (pg_name (i := 6) sc_l_web.nd rfl (.inl rfl)) (pgs_cons (pg_name (i := 7) sc_l_web.nd rfl (.inl rfl)) pgs_nil)))))
          (pss_one (ps_if (pt_cmpR op_eq (pe_call GD hr (by rfl) gD kD bD .nil pass0 (pa_cons (pv 0) (pa_cons pe_int pa_nil))) pe_int (nomark _))
            (pss_one (ps_par (i := 5) (j := 6) rfl sc_l_web.nd rfl rfl (by decide) rfl rfl (pa_cons (pv 6) (pa_cons (pv 5) pa_nil)) rfl))
            pss_nil)))
          pss_nil)
        (pss_one (ps_expr (pe_bm PySem.F.plainAttrs_list PySem.F.slot_list_append PySem.F.type_list_append mt_append (pv 3) (pa_cons (pe_tup (pa_cons (pv 5) (pa_cons (pv 6) (pa_cons (pe_ix ix_list (pe_lst (pa_cons pe_str (pa_cons pe_str pa_nil))) (pe_call GD hr (by rfl) gD kD bD .nil pass0 (pa_cons (pv 0) (pa_cons pe_int pa_nil))) (fun _ _ => rfl)) pa_nil)))) pa_nil))))))))
      (pss_one (ps_ret (pe_tup (pa_cons (pv 2) (pa_cons (pe_callTy call_tuple_of (by rfl) M.tuple (by decide +kernel) (pa_cons (pv 3) pa_nil)) pa_nil))))))))), ?_⟩
    -- great
    refine ⟨fun σ' H' => ∃ g : Bool, σ' = [some (.ref d), some (.int (if g = true then 1 else 0)), none, none, none, none, none, none] ∧ Well H' d (b + 1) ∧ Kp d d H H', ⟨.ref d, rfl, d, b, 8, rfl, hD, by omega, by decide, by decide, fun v1 H1 a1 b1 D1 K1 => ⟨rfl, .inr ⟨_, rfl, _, rfl, D1, K1⟩⟩⟩, ?_⟩
    rintro σ' H1 ⟨g, rfl, D1, K1⟩
    -- many
    refine ⟨fun σ' H' => ∃ n : Int, σ' = [some (.ref d), some (.int (if g = true then 1 else 0)), some (.int n), none, none, none, none, none] ∧ 1 ≤ n ∧ n ≤ 40 ∧ Well H' d (b + 2) ∧ Kp d d H H', ?_, ?_⟩
    · refine ⟨.ref d, rfl, by show 2 ≤ sizeLine; decide, fun p np => ?_⟩
      cases g
      · exact ⟨.int 0, rfl, p, _, 0, .int 6, rfl, rfl, SqL.of upd_same, rfl, d, b + 1, 6, rfl, D1.new np, by omega, by decide, by decide, fun v H2 a b D2 K2 => ⟨1, v, rfl, rfl, _, rfl, by omega, by omega, D2, (K1.trans (Kp.new np)).trans K2⟩⟩
      · exact ⟨.int 1, rfl, p, _, 1, .int 40, rfl, rfl, SqL.of upd_same, rfl, d, b + 1, 40, rfl, D1.new np, by omega, by decide, by decide, fun v H2 a b D2 K2 => ⟨1, v, rfl, rfl, _, rfl, by omega, by omega, D2, (K1.trans (Kp.new np)).trans K2⟩⟩
    clear D1 K1 H1
    rintro σ' H1 ⟨n, rfl, hn1, hn2, D1, K1⟩
    obtain ⟨k, rfl⟩ : ∃ k : Nat, n = k := ⟨n.toNat, by omega⟩
    -- ties = []
    refine ⟨Nat.zero_le _, fun L nL => ?_⟩
    have hLd := D1.ned nL
    have nL0 := K1.free nL hLd hLd
    have s1 : Same H1 (upd H1 L (.lst [])) := same_new nL
    have hL1 : (upd H1 L (.lst [])) L = some (.lst []) := upd_same
    have K1' : Kp d d H (upd H1 L (.lst [])) := K1.trans (Kp.new nL)
    have D1' := D1.same s1
    generalize upd H1 L (.lst []) = H2 at s1 hL1 K1' D1'
    -- how many
    refine ⟨.ref d, rfl, by show 2 ≤ sizeLine; decide, fun p np => ?_⟩
    have cnt : ∃ m : Int, atI [V.int 13, V.int 121] (if g = true then 1 else 0) = some (.int m) ∧ 0 < m ∧ m ≤ 121 := by
      cases g
      · exact ⟨13, rfl, by decide, by decide⟩
      · exact ⟨121, rfl, by decide, by decide⟩
    obtain ⟨m, em, hm0, hm1⟩ := cnt
    refine ⟨_, rfl, p, _, _, _, rfl, rfl, SqL.of upd_same, em, d, b + 2, m, rfl, D1'.new np, by omega, hm0, by omega, fun v H3 a3 b3 D3 K3 => ?_⟩
    refine ⟨.int k, rfl, k, 1, rfl, rfl, .inr ⟨_, rfl, v, _, rfl, rfl, .inl ⟨by omega, by omega⟩, _, rfl, ?_, ?_, ?_⟩⟩
    · by_cases hb : decide ((1 : Int) < k) = true
      · rw [hb]
        show -(2 ^ 62) ≤ v * 1
        omega
      · rw [Bool.not_eq_true] at hb
        rw [hb]
        show -(2 ^ 62) ≤ v * 0
        omega
    · by_cases hb : decide ((1 : Int) < k) = true
      · rw [hb]
        show v * 1 < 2 ^ 62
        omega
      · rw [Bool.not_eq_true] at hb
        rw [hb]
        show v * 0 < 2 ^ 62
        omega
    generalize hN : (v * (if decide ((1 : Int) < k) = true then 1 else 0)).toNat = N
    have hN2 : N ≤ 120 ∧ (0 < N → (1 : Int) < k) := by
      by_cases hb : (1 : Int) < k
      · rw [if_pos (decide_eq_true hb)] at hN
        exact ⟨by omega, fun _ => hb⟩
      · rw [if_neg (by simpa using hb)] at hN
        exact ⟨by omega, fun z => by omega⟩
    have K3' : Kp d d H H3 := (K1'.trans (Kp.new np)).trans K3
    have hL3 : H3 L = some (.lst []) := K3 _ _ hLd hLd (same_new np _ _ hL1)
    refine for_range (lo := 0) (n := N) (fun i σ' H' => ∃ (y4 y5 y6 y7 : Option V) (vs : List V) (ts : List Tie), σ' = [some (.ref d), some (.int (if g = true then 1 else 0)), some (.int k), some (.ref L), y4, y5, y6, y7] ∧ H' L = some (.lst vs) ∧ Paired (TieV H') vs ts ∧ ts.length = i ∧ (∀ t ∈ ts, TieOk k t) ∧ Well H' d (b + 3 + 6 * i) ∧ Kp d d H H') ?_ ?_ ?_
    · exact ⟨none, none, none, none, [], [], rfl, hL3, .nil, rfl, fun t ht => by simp at ht, D3, K3'⟩
    · clear K3' hL3 D3 K3
      rintro i σ' H4 hi ⟨y4, y5, y6, y7, vs, ts, rfl, hL, hP, hlen, hok, D4, K4⟩
      have hn := hN2.2 (by omega)
      refine ⟨.ref d, rfl, .int k, rfl, d, b + 3 + 6 * i, k, rfl, D4, by omega, by omega, by omega, fun v1 H5 a1 b1 D5 K5 => ?_⟩
      refine ⟨.int v1, rfl, v1, 1, rfl, rfl, .ref d, rfl, .int k, rfl, k, 1, rfl, rfl, d, b + 3 + 6 * i + 1, k - 1, rfl, D5, by omega, by omega, by omega, fun v2 H6 a2 b2 D6 K6 => ⟨v1 + 1, v2, rfl, rfl, .int k, rfl, _, k, rfl, rfl, show (0 : Int) < k by omega, ?_⟩⟩
      have hL6 : H6 L = some (.lst vs) := K6 _ _ hLd hLd (K5 _ _ hLd hLd hL)
      have hP6 : Paired (TieV H6) vs ts := ties_tk ((K5.tk D4).trans (K6.tk D5)) hP
      have K46 : Kp d d H H6 := (K4.trans K5).trans K6
      -- as one ahead, either way about
      refine ⟨fun σ' H' => ∃ (y4 y7 : Option V) (t' : Tie), σ' = [some (.ref d), some (.int (if g = true then 1 else 0)), some (.int k), some (.ref L), y4, some (.int t'.one), some (.int t'.other), y7] ∧ TieOk k t' ∧ H' L = some (.lst vs) ∧ Paired (TieV H') vs ts ∧ Well H' d (b + 3 + 6 * i + 5) ∧ Kp d d H H', ?_, ?_⟩
      · have ok1 : TieOk k ⟨v1, (v1 + 1 + v2) % k, false⟩ := ⟨a1, b1, (mod_rng (by omega)).1, (mod_rng (by omega)).2, other_ne a1 b1 a2 b2⟩
        refine ⟨.ref L, rfl, Nat.zero_le _, fun p np => ⟨L, p, vs, rfl, rfl, SqL.of (same_new np _ _ hL6), SqL.of upd_same, _, rfl, ?_⟩⟩
        by_cases hvs : vs = []
        · subst hvs
          exact ⟨_, _, ⟨v1, (v1 + 1 + v2) % k, false⟩, rfl, ok1, same_new np _ _ hL6, ties_tk (Same.tk (same_new np)) hP6, (D6.new np).mono (by omega), K46.trans (Kp.new np)⟩
        · have hpos : 0 < vs.length := List.length_pos_iff.mpr hvs
          have hb : (!vs.isEmpty) = true := by
            cases vs with
            | nil => exact absurd rfl hvs
            | cons z zs => rfl
          rw [hb]
          refine ⟨.ref d, rfl, d, _, 4, rfl, D6.new np, by omega, by decide, by decide, fun v3 H7 a3 b3 D7 K7 => ⟨rfl, _, rfl, ?_⟩⟩
          have hL7 : H7 L = some (.lst vs) := K7 _ _ hLd hLd (same_new np _ _ hL6)
          have hP7 : Paired (TieV H7) vs ts := ties_tk (K7.tk (D6.new np)) (ties_tk (Same.tk (same_new np)) hP6)
          have K17 : Kp d d H H7 := (K46.trans (Kp.new np)).trans K7
          refine ite2 (fun _ => ?_) (fun _ => ?_)
          · have hlv : vs.length = ts.length := Paired.length hP7
            refine ⟨.ref L, rfl, .ref d, rfl, .ref L, rfl, L, vs, rfl, .inl (SqL.of hL7), d, _, vs.length, rfl, D7, by omega, by omega, by omega, fun v4 H8 a4 b4 D8 K8 => ?_⟩
            have hL8 : H8 L = some (.lst vs) := K8 _ _ hLd hLd hL7
            have hP8 : Paired (TieV H8) vs ts := ties_tk (K8.tk D7) hP7
            obtain ⟨v, e1, e2⟩ := getI a4 b4
            obtain ⟨t', e3, a, rfl, e4⟩ := Paired.at hP8 e2
            have okt : TieOk k t' := hok t' (List.mem_of_getElem? e3)
            refine ⟨L, vs, v4, _, rfl, rfl, SqL.of hL8, e1, a, _, rfl, SqT.of e4, rfl, _, _, rfl, _, _, rfl, _, _, rfl, rfl, ?_⟩
            refine ⟨.ref d, rfl, d, _, 2, rfl, D8, by omega, by decide, by decide, fun v5 H9 a5 b5 D9 K9 => ⟨rfl, _, rfl, ?_⟩⟩
            have hL9 : H9 L = some (.lst vs) := K9 _ _ hLd hLd hL8
            have hP9 : Paired (TieV H9) vs ts := ties_tk (K9.tk D8) hP8
            have K19 : Kp d d H H9 := (K17.trans K8).trans K9
            refine ite2 (fun _ => ?_) (fun _ => ?_)
            · exact ⟨.int t'.other, rfl, .int t'.one, rfl, _, _, rfl, _, _, ⟨t'.other, t'.one, false⟩, rfl, ⟨okt.2.2.1, okt.2.2.2.1, okt.1, okt.2.1, Ne.symm okt.2.2.2.2⟩, hL9, hP9, D9, K19⟩
            · exact ⟨_, _, t', rfl, okt, hL9, hP9, D9, K19⟩
          · exact ⟨_, _, ⟨v1, (v1 + 1 + v2) % k, false⟩, rfl, ok1, hL7, hP7, D7.mono (by omega), K17⟩
      clear hL6 hP6 K46 D6 K6 K5 D5
      rintro σ' H6 ⟨y4', y7', t', rfl, okt, hL6, hP6, D6, K6⟩
      -- append
      refine ⟨.ref L, rfl, .inl ⟨rfl, _, SqL.of hL6⟩, .int t'.one, rfl, .int t'.other, rfl, by show 2 ≤ sizeLine; decide, fun p np => ?_⟩
      refine ⟨.ref d, rfl, d, _, 2, rfl, D6.new np, by omega, by decide, by decide, fun v7 H7 a7 b7 D7 K7 => ?_⟩
      have hp : p ≠ d := D6.ned np
      have fo : ∃ fo : Bool, atI [V.str "friend", V.str "foe"] v7 = some (.str (kindS fo)) := by
        have h01 : v7 = 0 ∨ v7 = 1 := by omega
        rcases h01 with e | e <;> subst e
        · exact ⟨false, rfl⟩
        · exact ⟨true, rfl⟩
      obtain ⟨fo, e5⟩ := fo
      refine ⟨p, _, v7, _, rfl, rfl, SqL.of (K7 _ _ hp hp upd_same), e5, by show 3 ≤ sizeLine; decide, fun q2 nq => ?_⟩
      have hL7 := same_new (o := .tup [.int t'.one, .int t'.other, .str (kindS fo)]) nq _ _ (K7 _ _ hLd hLd (same_new np _ _ hL6))
      have hP7 := ties_tk (Same.tk (same_new (o := .tup [.int t'.one, .int t'.other, .str (kindS fo)]) nq)) (ties_tk (K7.tk (D6.new np)) (ties_tk (Same.tk (same_new (o := .lst [.str "friend", .str "foe"]) np)) hP6))
      have hlv : vs.length = ts.length := Paired.length hP6
      refine ⟨L, vs, _, rfl, rfl, hL7, small1000 (by omega), ?_⟩
      refine ⟨_, _, _, _, vs ++ [.ref q2], ts ++ [⟨t'.one, t'.other, fo⟩], rfl, upd_same, Paired.snoc (ties_tk (tk_lst hL7) hP7) ⟨q2, rfl, tk_lst hL7 _ _ upd_same⟩, by rw [List.length_append, hlen]; rfl, fun t2 ht => ?_, ((D7.new nq).mut hLd).mono (by omega), (((K6.trans (Kp.new np)).trans K7).trans (Kp.new nq)).mut nL0⟩
      rcases List.mem_append.mp ht with h | h
      · exact hok t2 h
      · rw [List.mem_singleton.mp h]
        exact okt
    · rintro σ' H4 ⟨y4, y5, y6, y7, vs, ts, rfl, hL, hP, hlen, hok, D4, K4⟩
      refine ⟨.int k, rfl, .ref L, rfl, L, vs, rfl, .inl ⟨SqL.of hL, fun b nb => ⟨by show 2 ≤ sizeLine; decide, fun a na => ?_⟩⟩⟩
      have s2 := (same_new (o := .tup vs) nb).trans (same_new (o := .tup [.int k, .ref b]) na)
      exact q _ k ts _ ⟨a, b, vs, rfl, upd_same, same_new na _ _ upd_same, ties_tk (Same.tk s2) hP⟩ ⟨hn1, hn2, by omega, hok⟩ ((D4.same s2).mono (by omega)) (K4.trans (Same.kp s2))
end
/-! ### tuples cut and put together -/
section
variable {X : Cx}
theorem cutV_whole {xs : List V} {lo hi : Option Int} (h : HT.sIx xs.length 0 lo = 0 ∧ HT.sIx xs.length xs.length hi = xs.length) : cutV xs lo hi = xs := by
  unfold cutV
  rw [h.1, h.2]
  simp
def rSlU : V → Option Int → Option Int → Hp → VK → Prop := fun x lo hi H Q => ∃ a xs, x = .ref a ∧ H a = some (.tup xs) ∧ ∀ r H', Same H H' → H' r = some (.tup (cutV xs lo hi)) → Q (.ref r) H'
theorem sl_tupU : SlR X rSlU := by
  intro pins s σ H x v vl vu lo hi sl Q I rx hs pl pu h
  obtain ⟨a, xs, rfl, hx, q⟩ := h
  refine sl_tupA pins s σ H _ v vl vu lo hi sl Q I rx hs pl pu ⟨a, xs, rfl, SqT.of hx, fun hw => ?_, fun _ p np => ?_⟩
  · exact q a H (Same.refl H) (by rw [cutV_whole hw]; exact hx)
  · exact q p _ (same_new np) upd_same
def rCatU : R2 := fun x y H Q => ∃ a b xs ys, x = .ref a ∧ y = .ref b ∧ H a = some (.tup xs) ∧ H b = some (.tup ys) ∧ xs.length + ys.length ≤ 100000 ∧ ∀ r H', Same H H' → H' r = some (.tup (xs ++ ys)) → Q (.ref r) H'
theorem op_catU : OpR X (binaryOp .Add) rCatU := by
  intro pins s σ H x y v u Q I rx ry h
  obtain ⟨a, b, xs, ys, rfl, rfl, ha, hb, hz, q⟩ := h
  refine op_catA pins s σ H _ _ v u Q I rx ry ⟨a, b, xs, ys, rfl, rfl, SqT.of ha, SqT.of hb, Evl.sz_of hz, fun e => ?_, fun _ e => ?_, fun _ _ p np => ?_⟩
  · subst e
    exact q b H (Same.refl H) hb
  · subst e
    exact q a H (Same.refl H) (by rw [List.append_nil]; exact ha)
  · exact q p _ (same_new np) upd_same
end
/-! ### things of any kind -/
/-- its kind is known -/
def Kn (H : Hp) : V → Prop
  | .non => True
  | .bl _ => True
  | .int _ => True
  | .str _ => True
  | .ref a => (∃ xs, H a = some (.lst xs)) ∨ (∃ xs, H a = some (.tup xs)) ∨ ∃ kvs, H a = some (.dK kvs)
  | _ => False
def isI : V → Bool
  | .int _ => true
  | .bl _ => true
  | _ => false
def isB : V → Bool
  | .bl _ => true
  | _ => false
def isW : V → Bool
  | .int _ => true
  | _ => false
def isT (H : Hp) : V → Bool
  | .ref a => match H a with
    | some (.tup _) => true
    | _ => false
  | _ => false
section
variable {K : PySem.W.Frag} {H : Hp}
theorem kn_int {v : V} (h : Kn H v) : ∃ t, TyX K H v t ∧ PySem.W.kitOne K t (.type "int") = some (isI v) := by
  cases v with
  | non => exact ⟨_, .base .non, kit_ty (r := false) (by decide +kernel)⟩
  | bl b => exact ⟨_, .base (.bl b), kit_ty (r := true) (by decide +kernel)⟩
  | int i => exact ⟨_, .base (.int i), kit_ty (r := true) (by decide +kernel)⟩
  | str x => exact ⟨_, .base (.str x), kit_ty (r := false) (by decide +kernel)⟩
  | ref a =>
    rcases h with ⟨xs, h⟩ | ⟨xs, h⟩ | ⟨xs, h⟩
    · exact ⟨_, .base (.lst h), kit_ty (r := false) (by decide +kernel)⟩
    · exact ⟨_, .base (.tup h), kit_ty (r := false) (by decide +kernel)⟩
    · exact ⟨_, .base (.dK h), kit_ty (r := false) (by decide +kernel)⟩
  | byt b => exact h.elim
  | flt b => exact h.elim
  | ty n => exact h.elim
theorem kn_bool {v : V} (h : Kn H v) : ∃ t, TyX K H v t ∧ PySem.W.kitOne K t (.type "bool") = some (isB v) := by
  cases v with
  | non => exact ⟨_, .base .non, kit_ty (r := false) (by decide +kernel)⟩
  | bl b => exact ⟨_, .base (.bl b), kit_ty (r := true) (by decide +kernel)⟩
  | int i => exact ⟨_, .base (.int i), kit_ty (r := false) (by decide +kernel)⟩
  | str x => exact ⟨_, .base (.str x), kit_ty (r := false) (by decide +kernel)⟩
  | ref a =>
    rcases h with ⟨xs, h⟩ | ⟨xs, h⟩ | ⟨xs, h⟩
    · exact ⟨_, .base (.lst h), kit_ty (r := false) (by decide +kernel)⟩
    · exact ⟨_, .base (.tup h), kit_ty (r := false) (by decide +kernel)⟩
    · exact ⟨_, .base (.dK h), kit_ty (r := false) (by decide +kernel)⟩
  | byt b => exact h.elim
  | flt b => exact h.elim
  | ty n => exact h.elim
theorem kn_tup {v : V} (h : Kn H v) : ∃ t, TyX K H v t ∧ PySem.W.kitOne K t (.type "tuple") = some (isT H v) := by
  cases v with
  | non => exact ⟨_, .base .non, kit_ty (r := false) (by decide +kernel)⟩
  | bl b => exact ⟨_, .base (.bl b), kit_ty (r := false) (by decide +kernel)⟩
  | int i => exact ⟨_, .base (.int i), kit_ty (r := false) (by decide +kernel)⟩
  | str x => exact ⟨_, .base (.str x), kit_ty (r := false) (by decide +kernel)⟩
  | ref a =>
    unfold isT
    rcases h with ⟨xs, h⟩ | ⟨xs, h⟩ | ⟨xs, h⟩
    · exact ⟨_, .base (.lst h), by simp only [h]; exact kit_ty (r := false) (by decide +kernel)⟩
    · exact ⟨_, .base (.tup h), by simp only [h]; exact kit_ty (r := true) (by decide +kernel)⟩
    · exact ⟨_, .base (.dK h), by simp only [h]; exact kit_ty (r := false) (by decide +kernel)⟩
  | byt b => exact h.elim
  | flt b => exact h.elim
  | ty n => exact h.elim
theorem isT_at {v : V} (h : isT H v = true) : ∃ a xs, v = .ref a ∧ H a = some (.tup xs) := by
  cases v with
  | ref a =>
    unfold isT at h
    cases e : H a with
    | none => simp only [e] at h; cases h
    | some o =>
      cases o with
      | tup xs => exact ⟨a, xs, rfl, e⟩
      | _ => simp only [e] at h; cases h
  | _ => cases h
theorem isT_of {a : Addr} {xs : List V} (h : H a = some (.tup xs)) : isT H (.ref a) = true := by
  unfold isT
  simp only [h]
end
section
variable {P : Program} {w : World} {K : PySem.W.Frag} {mg : Str → Option Value} {base : Heap}
def spWhole : Sp := fun vs H Q _ => ∃ v, vs = [v] ∧ Kn H v ∧ Q (.bl (isW v)) H
theorem and_whole {v : V} : (isI v && !isB v) = isW v := by cases v <;> rfl
end
/-! ### ties, walks, parts: the mathematics -/
def Adj (ts : List Tie) (a b : Int) (foe : Bool) : Prop := ∃ t ∈ ts, t.foe = foe ∧ ((t.one = a ∧ t.other = b) ∨ (t.one = b ∧ t.other = a))
theorem Adj.symm {ts : List Tie} {a b : Int} {k : Bool} (h : Adj ts a b k) : Adj ts b a k := by
  obtain ⟨t, ht, e, h⟩ := h
  exact ⟨t, ht, e, h.symm⟩
/-- a walk with so many foes, even or odd -/
inductive RP (ts : List Tie) (a : Int) : Int → Bool → Prop
  | nil : RP ts a a false
  | step {b c : Int} {p k : Bool} : RP ts a b p → Adj ts b c k → RP ts a c (p ^^ k)
def Rch (ts : List Tie) (a b : Int) : Prop := ∃ p, RP ts a b p
theorem RP.trans {ts : List Tie} {a b c : Int} {p q : Bool} (h : RP ts a b p) (g : RP ts b c q) : RP ts a c (p ^^ q) := by
  induction g with
  | nil =>
    rw [Bool.xor_false]
    exact h
  | step _ k ih =>
    rw [← Bool.xor_assoc]
    exact ih.step k
theorem RP.one {ts : List Tie} {a b : Int} {k : Bool} (h : Adj ts a b k) : RP ts a b k := by
  have q := RP.nil.step h
  rw [Bool.false_xor] at q
  exact q
theorem RP.symm {ts : List Tie} {a b : Int} {p : Bool} (h : RP ts a b p) : RP ts b a p := by
  induction h with
  | nil => exact .nil
  | step _ k ih =>
    have q := (RP.one k.symm).trans ih
    rw [Bool.xor_comm] at q
    exact q
theorem Rch.refl {ts : List Tie} {a : Int} : Rch ts a a := ⟨_, .nil⟩
theorem Rch.symm {ts : List Tie} {a b : Int} (h : Rch ts a b) : Rch ts b a := by
  obtain ⟨p, h⟩ := h
  exact ⟨p, h.symm⟩
theorem Rch.trans {ts : List Tie} {a b c : Int} (h : Rch ts a b) (g : Rch ts b c) : Rch ts a c := by
  obtain ⟨p, h⟩ := h
  obtain ⟨q, g⟩ := g
  exact ⟨_, h.trans g⟩
theorem Rch.adj {ts : List Tie} {a b : Int} {k : Bool} (h : Adj ts a b k) : Rch ts a b := ⟨_, RP.one h⟩
theorem Rch.ind {ts : List Tie} {a b : Int} (C : Int → Prop) (h : Rch ts a b) (h0 : C a) (hs : ∀ x y k, C x → Adj ts x y k → C y) : C b := by
  obtain ⟨p, h⟩ := h
  induction h with
  | nil => exact h0
  | step _ k ih => exact hs _ _ _ ih k
theorem Adj.rng {ts : List Tie} {n a b : Int} {k : Bool} (ok : ∀ t ∈ ts, TieOk n t) (h : Adj ts a b k) : 0 ≤ b ∧ b < n := by
  obtain ⟨t, ht, _, h⟩ := h
  obtain ⟨h1, h2, h3, h4, _⟩ := ok t ht
  rcases h with ⟨e1, e2⟩ | ⟨e1, e2⟩
  · omega
  · omega
theorem Rch.rng {ts : List Tie} {n a b : Int} (ok : ∀ t ∈ ts, TieOk n t) (ha : 0 ≤ a ∧ a < n) (h : Rch ts a b) : 0 ≤ b ∧ b < n := h.ind (fun x => 0 ≤ x ∧ x < n) ha fun _ _ _ _ k => k.rng ok
def leader (ts : List Tie) (s : Int) : Prop := ∀ q, Rch ts s q → s ≤ q
/-- rising lists of the same numbers are one -/
theorem rising_ext : ∀ {xs ys : List Int}, xs.Pairwise (· < ·) → ys.Pairwise (· < ·) → (∀ z, z ∈ xs ↔ z ∈ ys) → xs = ys
  | [], [], _, _, _ => rfl
  | [], y :: ys, _, _, h => by have := (h y).mpr (by simp); simp at this
  | x :: xs, [], _, _, h => by have := (h x).mp (by simp); simp at this
  | x :: xs, y :: ys, hx, hy, h => by
    rw [List.pairwise_cons] at hx hy
    have e : x = y := by
      have h1 := (h x).mp (by simp)
      have h2 := (h y).mpr (by simp)
      rcases List.mem_cons.mp h1 with e | e
      · exact e
      · rcases List.mem_cons.mp h2 with e' | e'
        · exact e'.symm
        · have := hx.1 y e'
          have := hy.1 x e
          omega
    subst e
    rw [rising_ext hx.2 hy.2 fun z => ?_]
    constructor
    · intro hz
      rcases List.mem_cons.mp ((h z).mp (List.mem_cons_of_mem _ hz)) with e | e
      · have := hx.1 z hz
        omega
      · exact e
    · intro hz
      rcases List.mem_cons.mp ((h z).mpr (List.mem_cons_of_mem _ hz)) with e | e
      · have := hy.1 z hz
        omega
      · exact e
/-- 0, 1, .., n - 1 -/
def rng (n : Nat) : List Int := (List.range n).map fun (i : Nat) => (i : Int)
theorem mem_rng {n : Nat} {z : Int} : z ∈ rng n ↔ 0 ≤ z ∧ z < n := by
  unfold rng
  rw [List.mem_map]
  constructor
  · rintro ⟨i, hi, rfl⟩
    have := List.mem_range.mp hi
    omega
  · rintro ⟨h1, h2⟩
    exact ⟨z.toNat, List.mem_range.mpr (by omega), by omega⟩
theorem rng_rising (n : Nat) : (rng n).Pairwise (· < ·) := by
  unfold rng
  rw [List.pairwise_map]
  exact List.pairwise_lt_range.imp (by intro a b h; omega)
theorem rng_succ (n : Nat) : rng (n + 1) = rng n ++ [(n : Int)] := by
  unfold rng
  rw [List.range_succ, List.map_append]
  rfl
theorem rng_length (n : Nat) : (rng n).length = n := by
  unfold rng
  rw [List.length_map, List.length_range]
open Classical in
/-- the part of s -/
noncomputable def partOf (ts : List Tie) (n : Nat) (s : Int) : List Int := (rng n).filter fun p => decide (Rch ts s p)
open Classical in
/-- the parts by their first places, below i -/
noncomputable def partsTo (ts : List Tie) (n i : Nat) : List (List Int) := ((rng i).filter fun s => decide (leader ts s)).map (partOf ts n)
open Classical in
theorem partsTo_succ (ts : List Tie) (n i : Nat) : partsTo ts n (i + 1) = partsTo ts n i ++ (if leader ts i then [partOf ts n i] else []) := by
  unfold partsTo
  rw [rng_succ, List.filter_append, List.map_append]
  congr 1
  by_cases h : leader ts (i : Int)
  · rw [if_pos h, List.filter_cons, if_pos (decide_eq_true h)]
    rfl
  · rw [if_neg h, List.filter_cons, if_neg (by simpa using h)]
    rfl
theorem part_rising (ts : List Tie) (n : Nat) (s : Int) : (partOf ts n s).Pairwise (· < ·) := (rng_rising n).filter _
theorem mem_part {ts : List Tie} {n : Nat} {s z : Int} : z ∈ partOf ts n s ↔ (0 ≤ z ∧ z < n) ∧ Rch ts s z := by
  unfold partOf
  rw [List.mem_filter, mem_rng]
  simp
/-! ### the least place that each comes to, gone over again and again -/
def relax (f : Int → Int) (t : Tie) : Int → Int := fun x => if x = t.one ∨ x = t.other then min (f t.one) (f t.other) else f x
def rounds (ts : List Tie) : Nat → Int → Int
  | 0 => fun x => x
  | r + 1 => ts.foldl relax (rounds ts r)
theorem relax_le (f : Int → Int) (t : Tie) (x : Int) : relax f t x ≤ f x := by
  unfold relax
  split
  · rename_i h
    rcases h with rfl | rfl <;> omega
  · exact Int.le_refl _
theorem fold_le : ∀ (l : List Tie) (f : Int → Int) (x : Int), l.foldl relax f x ≤ f x
  | [], _, _ => Int.le_refl _
  | t :: l, f, x => Int.le_trans (fold_le l (relax f t) x) (relax_le f t x)
theorem fold_tie : ∀ (l : List Tie) (f : Int → Int) (t : Tie), t ∈ l → l.foldl relax f t.one ≤ min (f t.one) (f t.other) ∧ l.foldl relax f t.other ≤ min (f t.one) (f t.other)
  | t' :: l, f, t, h => by
    rcases List.mem_cons.mp h with e | e
    · subst e
      have h1 := fold_le l (relax f t) t.one
      have h2 := fold_le l (relax f t) t.other
      have e1 : relax f t t.one = min (f t.one) (f t.other) := by unfold relax; rw [if_pos (.inl rfl)]
      have e2 : relax f t t.other = min (f t.one) (f t.other) := by unfold relax; rw [if_pos (.inr rfl)]
      rw [e1] at h1
      rw [e2] at h2
      exact ⟨h1, h2⟩
    · have ih := fold_tie l (relax f t') t e
      have h1 := relax_le f t' t.one
      have h2 := relax_le f t' t.other
      exact ⟨Int.le_trans ih.1 (by omega), Int.le_trans ih.2 (by omega)⟩
theorem fold_rch {ts : List Tie} : ∀ (l : List Tie) (f : Int → Int), (∀ t ∈ l, t ∈ ts) → (∀ x, Rch ts x (f x)) → ∀ x, Rch ts x (l.foldl relax f x)
  | [], _, _, h => h
  | t :: l, f, hl, h => fold_rch l (relax f t) (fun t' ht => hl t' (List.mem_cons_of_mem _ ht)) fun x => by
    have ad : Rch ts t.one t.other := Rch.adj (k := t.foe) ⟨t, hl t (by simp), rfl, .inl ⟨rfl, rfl⟩⟩
    unfold relax
    split
    · rename_i hx
      have key : Rch ts x t.one ∧ Rch ts x t.other := by
        rcases hx with e | e <;> subst e
        · exact ⟨Rch.refl, ad⟩
        · exact ⟨ad.symm, Rch.refl⟩
      rcases Int.le_total (f t.one) (f t.other) with q | q
      · rw [Int.min_eq_left q]
        exact key.1.trans (h _)
      · rw [Int.min_eq_right q]
        exact key.2.trans (h _)
    · exact h x
theorem rounds_rch (ts : List Tie) : ∀ (r : Nat) (x : Int), Rch ts x (rounds ts r x)
  | 0, _ => Rch.refl
  | r + 1, x => fold_rch ts _ (fun _ h => h) (rounds_rch ts r) x
theorem filter_lt {p q : Int → Bool} : ∀ {l : List Int}, (∀ x ∈ l, q x = true → p x = true) → (∃ x ∈ l, p x = true ∧ q x = false) → (l.filter q).length < (l.filter p).length
  | [], _, ⟨x, hx, _⟩ => by simp at hx
  | y :: l, hi, ⟨x, hx, hp, hq⟩ => by
    have mono : (l.filter q).length ≤ (l.filter p).length := by
      have hi' : ∀ x ∈ l, q x = true → p x = true := fun x h => hi x (List.mem_cons_of_mem _ h)
      clear hi hx hp hq
      induction l with
      | nil => exact Nat.le_refl _
      | cons z l ih =>
        have ih := ih fun x h => hi' x (List.mem_cons_of_mem _ h)
        rw [List.filter_cons, List.filter_cons]
        have hz := hi' z (by simp)
        cases h1 : q z <;> cases h2 : p z <;> simp_all <;> omega
    rw [List.filter_cons, List.filter_cons]
    rcases List.mem_cons.mp hx with e | e
    · subst e
      rw [hq, hp]
      simp
      omega
    · have ih := filter_lt (l := l) (fun x h => hi x (List.mem_cons_of_mem _ h)) ⟨x, e, hp, hq⟩
      have hy := hi y (by simp)
      cases h1 : q y <;> cases h2 : p y <;> simp_all <;> omega
open Classical in
/-- behind as many rounds as there are places each has its part's least place -/
theorem rounds_least {ts : List Tie} {n : Nat} (ok : ∀ t ∈ ts, TieOk n t) {m p : Int} (hm : leader ts m) (h0 : 0 ≤ m ∧ m < n) (hp : Rch ts m p) : rounds ts n p = m := by
  have ge : ∀ r x, Rch ts m x → m ≤ rounds ts r x := fun r x hx => hm _ (hx.trans (rounds_rch ts r x))
  have mono : ∀ r x, rounds ts (r + 1) x ≤ rounds ts r x := fun r x => fold_le ts _ x
  have atm : ∀ r, rounds ts r m = m := fun r => by
    have h1 := ge r m Rch.refl
    have h2 : rounds ts r m ≤ m := by
      induction r with
      | zero => exact Int.le_refl _
      | succ r ih => exact Int.le_trans (mono r m) (ih (ge r m Rch.refl))
    omega
  have cnt : ∀ r, ((rng n).filter fun x => decide (Rch ts m x ∧ rounds ts r x ≠ m)).length ≤ n - r := fun r => by
    induction r with
    | zero =>
      refine Nat.le_trans (List.length_filter_le _ _) ?_
      rw [rng_length]
      omega
    | succ r ih =>
      by_cases hex : ∃ x, Rch ts m x ∧ rounds ts r x ≠ m
      · obtain ⟨x, hx, hne⟩ := hex
        -- an edge over which it comes
        have edge : ∃ a b k, Rch ts m a ∧ rounds ts r a = m ∧ Adj ts a b k ∧ rounds ts r b ≠ m := by
          by_cases hn : ∃ a b k, Rch ts m a ∧ rounds ts r a = m ∧ Adj ts a b k ∧ rounds ts r b ≠ m
          · exact hn
          · exfalso
            refine hne (hx.ind (fun y => Rch ts m y ∧ rounds ts r y = m) ⟨Rch.refl, atm r⟩ fun a b k ha k' => ⟨ha.1.trans (Rch.adj k'), ?_⟩).2
            by_cases hb : rounds ts r b = m
            · exact hb
            · exact absurd ⟨a, b, k, ha.1, ha.2, k', hb⟩ hn
        obtain ⟨a, b, k, ha, ha2, hab, hb⟩ := edge
        have hmb : Rch ts m b := ha.trans (Rch.adj hab)
        have hb' : rounds ts (r + 1) b = m := by
          have h1 := ge (r + 1) b hmb
          obtain ⟨t, ht, _, h⟩ := hab
          have ft := fold_tie ts (rounds ts r) t ht
          have h2 : rounds ts (r + 1) b ≤ m := by
            rcases h with ⟨e1, e2⟩ | ⟨e1, e2⟩
            · have q := ft.2
              rw [e1, e2, ha2] at q
              exact Int.le_trans q (by omega)
            · have q := ft.1
              rw [e1, e2, ha2] at q
              exact Int.le_trans q (by omega)
          omega
        have lt := filter_lt (p := fun x => decide (Rch ts m x ∧ rounds ts r x ≠ m)) (q := fun x => decide (Rch ts m x ∧ rounds ts (r + 1) x ≠ m)) (l := rng n) (fun x _ hq => by
          have hq := of_decide_eq_true hq
          refine decide_eq_true ⟨hq.1, fun z => hq.2 ?_⟩
          have h1 := ge (r + 1) x hq.1
          have h2 := mono r x
          omega) ⟨b, mem_rng.mpr (hmb.rng ok h0), decide_eq_true ⟨hmb, hb⟩, decide_eq_false fun z => z.2 hb'⟩
        omega
      · have e : (rng n).filter (fun x => decide (Rch ts m x ∧ rounds ts (r + 1) x ≠ m)) = [] := by
          rw [List.filter_eq_nil_iff]
          intro x _ hq
          have hq := of_decide_eq_true hq
          refine hex ⟨x, hq.1, fun z => hq.2 ?_⟩
          have h1 := ge (r + 1) x hq.1
          have h2 := mono r x
          omega
        rw [e]
        exact Nat.zero_le _
  have c := cnt n
  rw [Nat.sub_self] at c
  have e := List.eq_nil_of_length_eq_zero (Nat.le_zero.mp c)
  by_cases hne : rounds ts n p = m
  · exact hne
  · rw [List.filter_eq_nil_iff] at e
    exact absurd (decide_eq_true ⟨hp, hne⟩) (e p (mem_rng.mpr (hp.rng ok h0)))
open Classical in
/-- each has a least place -/
theorem has_leader {ts : List Tie} {n : Nat} (ok : ∀ t ∈ ts, TieOk n t) {p : Int} (h0 : 0 ≤ p ∧ p < n) : ∃ m, leader ts m ∧ (0 ≤ m ∧ m < n) ∧ Rch ts m p := by
  have key : ∀ (k : Nat) (x : Int), x = k → Rch ts p x → ∃ m, leader ts m ∧ (0 ≤ m ∧ m < n) ∧ Rch ts m p := by
    intro k
    induction k using Nat.strongRecOn with
    | ind k ih =>
      intro x hx hr
      have hxr := hr.rng ok h0
      by_cases hl : leader ts x
      · exact ⟨x, hl, hxr, hr.symm⟩
      · have hl' : ∃ q, Rch ts x q ∧ q < x := by
          by_cases h : ∃ q, Rch ts x q ∧ q < x
          · exact h
          · exfalso
            refine hl fun q hq => ?_
            by_cases h' : q < x
            · exact absurd ⟨q, hq, h'⟩ h
            · omega
        obtain ⟨q, hq, hlt⟩ := hl'
        have hqr := hq.rng ok hxr
        exact ih q.toNat (by omega) q (by omega) (hr.trans hq)
  exact key p.toNat p (by omega) Rch.refl
/-! ### tuples that are known to have no dict: their methods -/
def NoD (H : Hp) (p : Addr) (xs : List V) : Prop := ∃ o : Obj, o.dict = none ∧ H p = some (.frz o (.tup xs))
theorem NoD.same {H H' : Hp} {p : Addr} {xs : List V} (h : NoD H p xs) (s : Same H H') : NoD H' p xs := by
  obtain ⟨o, h1, h2⟩ := h
  exact ⟨o, h1, s _ _ h2⟩
theorem NoD.sq {K : PySem.W.Frag} {H : Hp} {p : Addr} {xs : List V} (h : NoD H p xs) : SqT K H p xs := by
  obtain ⟨o, h1, h2⟩ := h
  exact .inl (.inr ⟨o, h2⟩)
theorem NoD.kp {H H' : Hp} {d p : Addr} {b : Nat} {xs : List V} (h : NoD H p xs) (k : Kp d d H H') (D : Well H d b) : NoD H' p xs := by
  obtain ⟨o, h1, h2⟩ := h
  obtain ⟨g, st, n, e1, _⟩ := D
  have ne : p ≠ d := ne_of h2 e1 (by intro z; cases z)
  exact ⟨o, h1, k _ _ ne ne h2⟩
section
variable {X : Cx}
theorem call_tuple_ofZ : CallR X (.type "tuple") (fun xs H Q => ∃ p ys, xs = [.ref p] ∧ SqL X.K H p ys ∧ ∀ l o, o.dict = none → H l = none → Q (.ref l) (upd H l (.frz o (.tup ys)))) := by
  intro pins s σ H xs us Q I r h
  obtain ⟨p, ys, rfl, hq, q⟩ := h
  obtain ⟨u, rfl, rx⟩ := vals1 r
  cases rx
  obtain ⟨its, r', pl, hz⟩ := I.list hq
  have hlen := r'.length
  refine call_tuple_list pl.isList (fun h' kp => ?_) (by simp only [List.size_toArray] <;> omega)
  have I1 : Inv X pins σ H { s with heap := h' } := I.kept (t' := s.toks) kp
  have I2 : Inv X pins σ (upd H h'.objs.size (.frz { cls := .type "tuple", data := .seq its.toArray } (.tup ys))) { s with heap := h'.push { cls := .type "tuple", data := .seq its.toArray } } :=
    I1.laid (t' := s.toks) (fun b o e => Heap.get?_push_of_some _ e) (Nat.le_refl _) (show ObjOk X.prog X.w _ _ _ (.frz { cls := .type "tuple", data := .seq its.toArray } (.tup ys)) from ⟨Heap.get?_push_size _ rfl, hz, its, r', IsTup.new _ _⟩)
  exact ⟨.ref h'.objs.size, _, I2, rfl, q _ _ rfl (I1.hok.fresh (Nat.le_refl _))⟩
def tTupRgZ (te : L2.St → Hp → (Int → Int → Hp → Prop) → Prop) : TE := fun σ H Q => te σ H fun a b H1 => RgOk a b ∧ ∀ q o, o.dict = none → H1 q = none → Q (.ref q) (upd H1 q (.frz o (.tup (rgV a b))))
theorem pe_tupRgZ {e : Expr} {te : L2.St → Hp → (Int → Int → Hp → Prop) → Prop} {p pos : Pos} (hc : X.calm = true) (hg : Gl X "tuple") (hm : X.mg "tuple" = none) (he : PRg X e te) (na : starEach [e] X.env = (false, eval e X.env) :: starEach [] X.env := by rfl) : PE X (.Call (.Name "tuple" p) [e] [] pos) (tTupRgZ te) := by
  refine ⟨fun pins s σ H Q I h => ?_⟩
  refine Call_ (ld_blt I hg hm boot_tuple (PyProof.Rows.callWith_type1 (args_cons (thn (he pins s σ H _ I h) fun x s1 ⟨r, a, b, t, u, v, H1, ex, hr, I1, ok, q⟩ => args_nil ?_) na) na))
  subst ex
  obtain ⟨b1, b2, b3, b4, b5⟩ := ok
  refine call_tuple_range (n := (b - a).toNat) (I1.ok.hd hc) hr (small_one b1 b2 b3 b4) (rangeSize_nat a b) b5 fun h' tk acc hk hi => ?_
  have I2 : Inv X pins σ H1 { s1 with heap := h', toks := tk } := I1.kept hk
  refine ⟨.ref h'.objs.size, upd H1 h'.objs.size (.frz { cls := .type "tuple", data := .seq acc } (.tup (rgV a b))), I2.laid (t' := tk) (fun c o e => Heap.get?_push_of_some _ e) (Nat.le_refl _) (show ObjOk X.prog X.w _ _ _ (.frz { cls := .type "tuple", data := .seq acc } (.tup (rgV a b))) from ⟨Heap.get?_push_size _ rfl, ?_, acc.toList, vals_rg hi, ?_⟩), rfl, q _ _ rfl (I2.hok.fresh (Nat.le_refl _))⟩
  · rw [rgV_length, sizeLine_eq]; omega
  · rw [Array.toArray_toList]; exact IsTup.new _ _
/-- a method of such a tuple -/
def tBMT (r : V → List V → Hp → VK → Prop) (to : TE) (t : TA) : TE := fun σ H Q => to σ H fun x H1 => (∃ p xs, x = .ref p ∧ NoD H1 p xs) ∧ t σ H1 fun xs H2 => r x xs H2 Q
theorem pe_bmT {o e : Expr} {es : List Expr} {to : TE} {t : TA} {name : Str} {apos cpos : Pos} {id : String} {r : V → List V → Hp → VK → Prop} (slot : Slot "tuple" name id) (hty : typeOf (.builtin id) = pure (.type "method_descriptor")) (hm : MtR X id r) (ho : PE X o to) (ha : PA X (e :: es) t)
    (hbase : attributeBase o name X.env (eval o X.env) = eval o X.env := by rfl)
    (hfew : ((backTo cpos (starEach (e :: es) X.env)).all (fun x => !x.1) && (backToKw cpos (keywordEach [] X.env)).all (fun x => x.1.isSome)
      && decide ((e :: es).length + ([] : List Keyword).length + (if ([] : List Keyword).isEmpty then 0 else 1) < 30)) = true := by rfl)
    (hline : (apos.endLine == cpos.line) = true := by rfl) (hs : starEach (e :: es) X.env = (false, eval e X.env) :: starEach es X.env := by rfl) (hplain : (backTo cpos (starEach es X.env)).any (·.1) = false := by rfl) :
    PE X (.Call (.Attribute o name apos) (e :: es) [] cpos) (tBMT r to t) := by
  refine ⟨fun pins s σ H Q I h => ?_⟩
  refine wpAny_Call_method_late hbase hfew hline rfl (thn (ho.run pins s σ H _ I h) fun v s1 ⟨x, H1, I1, r1, ⟨p, xs, ex, ob, od, hp⟩, q1⟩ => ?_)
  subst ex
  obtain rfl : v = Value.ref p := r1
  obtain ⟨e1, hz, its, rv, o2, e2, c2, n2, d2⟩ := (show ObjOk X.prog X.w H1 s1.heap p (.frz ob (.tup xs)) from I1.hok p _ hp)
  rw [e1] at e2
  cases e2
  refine ⟨"tuple", id, PySem.F.plainAttrs_tuple, slot, hty, ⟨ob, e1, c2⟩, fun a ea => ?_, ?_⟩
  · cases ea
    exact ⟨ob, e1, od⟩
  have hA := ha.run cpos pins s1 σ H1 _ I1 q1
  rw [hs] at hA ⊢
  refine Calls.callWith_builtin (by show (false || (backTo cpos (starEach es X.env)).any (·.1)) = false; rw [hplain] <;> rfl) (Calls.evalArgs_plain ?_)
  exact thn hA fun us s2 ⟨vs, H2, I2, r2, q2⟩ => hm pins s2 σ H2 (.ref p) vs (.ref p) us Q I2 rfl r2 q2
def rCntT (K : PySem.W.Frag) : V → List V → Hp → VK → Prop := fun x xs H Q => ∃ (p : Addr) (ns : List Int) (k : Int), x = .ref p ∧ xs = [.int k] ∧ SqT K H p (ns.map V.int) ∧ Q (.int (ns.count k : Nat)) H
theorem mt_tcount : MtR X "tuple.count" (rCntT X.K) := by
  intro pins s σ H x xs v us Q I rx rxs h
  obtain ⟨p, ns, k, rfl, rfl, hs, q⟩ := h
  cases rx
  obtain ⟨u, rfl, ru⟩ := rxs.one
  obtain ⟨t, rfl⟩ := ru
  obtain ⟨its, rv, ⟨⟨cls, dd, data, sl⟩, ho, hc, n, hd⟩, hlen⟩ := I.tuple hs
  simp only at hc hd
  subst hc hd
  have hi := ints_of_vals rv
  refine call_meets PySem.F.slot_tuple_count ⟨_, ho, rfl⟩ PySem.F.entry_tuple_count (PySem.F.args_tuple_count_2 _ _)
    (SeqAt.tuple_countAt p its.toArray n dd sl (.int k t) (eqk k)) ⟨ho, fun y hy => (eqk_gives hi y (by simpa using hy)).at _ _, ?_⟩
  have ec : its.toArray.toList.countP (eqk k) = ns.count k := eqk_count hi
  refine ⟨.int (ns.count k : Nat), H, I.tok _, ⟨s.toks, ?_⟩, q⟩
  show Value.int ((its.toArray.toList.countP (eqk k) : Nat) : Int) s.toks = Value.int ((ns.count k : Nat) : Int) s.toks
  rw [ec]
end
/-! ### zip of two tuples -/
theorem walk_zipT {K : PySem.W.Frag} {a b : Addr} {xs ys : List V} {n : Nat} (hn : n = min xs.length ys.length) : Walk (RZ.ItzT K a b) n (fun H => SqT K H a xs ∧ SqT K H b ys) (YPair (fun i => xs[i]?) (fun i => ys[i]?)) := by
  subst hn
  refine ⟨fun i _ hi q => ?_, fun _ q => ⟨xs, ys, q.1, q.2, by omega⟩, fun i H v H' _ q y => ?_⟩
  · have h1 : i < xs.length := by omega
    have h2 : i < ys.length := by omega
    exact ⟨xs, ys, xs[i], ys[i], q.1, q.2, by simp [h1], by simp [h2]⟩
  · obtain ⟨T, x, z, h1, h2, h3, h4, h5⟩ := y
    exact ⟨T, x, z, h1, h2, h3, h4 xs q.1, h5 ys q.2⟩
/-! ### webs turned -/
theorem Same.mut {H H' : Hp} {a : Addr} {o : HO} (s : Same H H') (h : H a = none) : Same H (upd H' a o) := fun b x e => by
  rw [upd_ne (ne_of_none e h)]
  exact s b x e
theorem Same.seqT {K : PySem.W.Frag} {H H' : Hp} {a : Addr} {xs : List V} (e : Same H H') (h : SqT K H a xs) : SqT K H' a xs := by
  rcases h with (h | ⟨o, h⟩) | h
  · exact .inl (.inl (e _ _ h))
  · exact .inl (.inr ⟨o, e _ _ h⟩)
  · exact .inr h
def inP (ps : List Int) (i : Int) : Bool := decide (i ∈ ps)
def flipT (t : Tie) : Tie := ⟨t.one, t.other, !t.foe⟩
def turnT (ps : List Int) (t : Tie) : Tie := if inP ps t.one = inP ps t.other then t else flipT t
def AmongAt (H : Hp) (D : Addr) (ps : List Int) : Prop := ∃ kvs : List (Key × V), H D = some (.dK kvs) ∧ ∀ k : Int, (valV kvs (Sum.inl k)).isSome = inP ps k
theorem AmongAt.same {H H' : Hp} {D : Addr} {ps : List Int} (h : AmongAt H D ps) (s : Same H H') : AmongAt H' D ps := by
  obtain ⟨kvs, h1, h2⟩ := h
  exact ⟨kvs, s _ _ h1, h2⟩
def spTurnedTie : Sp := fun vs H Q _ => ∃ (v : V) (D : Addr) (t : Tie) (ps : List Int), vs = [v, .ref D] ∧ TieV H v t ∧ AmongAt H D ps ∧ ∀ u H', Same H H' → TieV H' u (turnT ps t) → Q u H'
def spTurned (K : PySem.W.Frag) : Sp := fun vs H Q _ => ∃ (v : V) (p : Addr) (n : Int) (ts : List Tie) (ps : List Int), vs = [v, .ref p] ∧ WebAt H v n ts ∧ ts.length ≤ 120 ∧ SqT K H p (ps.map V.int) ∧ ps.length ≤ 40 ∧
  ∀ u H', Same H H' → WebAt H' u n (ts.map (turnT ps)) → Q u H'
theorem inP_take {ps : List Int} {i : Nat} {x : Int} (h : ps[i]? = some x) (k : Int) : inP (ps.take (i + 1)) k = (decide (k = x) || inP (ps.take i) k) := by
  unfold inP
  rw [List.take_add_one, h]
  by_cases e1 : k = x
  · subst e1
    simp
  · by_cases e2 : k ∈ ps.take i
    · rw [decide_eq_true e2, decide_eq_true (List.mem_append_left _ e2)]
      simp
    · rw [decide_eq_false e2, decide_eq_false e1, decide_eq_false]
      · rfl
      · intro h
        rcases List.mem_append.mp h with h | h
        · exact e2 h
        · simp at h
          exact e1 h
theorem map_take_succ {α β : Type} {f : α → β} {xs : List α} {i : Nat} {x : α} (h : xs[i]? = some x) : (xs.take (i + 1)).map f = (xs.take i).map f ++ [f x] := by
  rw [List.take_add_one, h, List.map_append]
  rfl
/-! ### the law's own turning -/
theorem cnt_in : ∀ {ps : List Int}, ps.Nodup → ∀ k : Int, ps.count k = if inP ps k = true then 1 else 0
  | [], _, k => rfl
  | x :: xs, nd, k => by
    have nd' := List.nodup_cons.mp nd
    rw [List.count_cons, cnt_in nd'.2 k]
    unfold inP
    by_cases e : x = k
    · subst e
      rw [decide_eq_false nd'.1]
      simp
    · by_cases h : k ∈ xs
      · rw [decide_eq_true h, decide_eq_true (List.mem_cons_of_mem _ h)]
        simp [e]
      · rw [decide_eq_false h, decide_eq_false (fun z => (List.mem_cons.mp z).elim (fun z => e z.symm) h)]
        simp [e]
def spAbout : Sp := fun vs H Q _ => ∃ (v : V) (p : Addr) (n : Int) (ts : List Tie) (ps : List Int), vs = [v, .ref p] ∧ WebAt H v n ts ∧ ts.length ≤ 120 ∧ NoD H p (ps.map V.int) ∧ ps.Nodup ∧
  ∀ u H', Same H H' → WebAt H' u n (ts.map (turnT ps)) → Q u H'
theorem flips (b : Bool) : valV (mergeK [] [((Sum.inr "friend" : Key), V.str "foe"), (Sum.inr "foe", V.str "friend")]) (Sum.inr (kindS b)) = some (.str (kindS (!b))) := by
  cases b <;> decide
section
variable {P : Program} {w : World} {K : PySem.W.Frag} {mg : Str → Option Value} {base : Heap}
theorem ok_l_about {f : Addr} {fd : FuncData} (F : Fun K "_law_about" "_law_about" s_l_about f fd) (M : Free mg) : FnOk P w K mg base CX0 1 f fd ["_law_web_here", "_law_places_here"] spAbout := by
  refine F.ok sc_l_about (fun vs H Q E h => ?_) (fun cdv A outer s H vs Q E hr h => ?_)
  · obtain ⟨v, p, n, ts, ps, rfl, _⟩ := h
    rfl
  · obtain ⟨v, p, n, ts, ps, rfl, ⟨wa, wb, us, rfl, hwa, hwb, hp⟩, few, hP, nd, q⟩ := h
    have hu := hu_of hr
    refine ⟨_, (pss_cons (ps_set (i := 2) sc_l_about.nd rfl (.inl rfl) (pe_disp (pps_cons pe_str pe_str (pps_cons pe_str pe_str pps_nil)) (by rfl) (by rfl) (fun z => by cases z) (by decide)))
      (pss_cons (ps_set (i := 3) sc_l_about.nd rfl (.inl rfl) (pe_lst pa_nil))
      (pss_cons (ps_for PassesOwn.never rfl (pi_tup (pe_ix ix_tup (pv 0) pe_int (fun _ _ => rfl))) (pg_name (i := 4) sc_l_about.nd rfl (.inl rfl))
        (Evl.pss_cut (ps_if (pt_cmpR op_eq (pe_op op_add (pe_bmT PySem.F.slot_tuple_count PySem.F.type_tuple_count mt_tcount (pv 1) (pa_cons (pe_ix ix_tup (pv 4) pe_int (fun _ _ => rfl)) pa_nil)) (pe_bmT PySem.F.slot_tuple_count PySem.F.type_tuple_count mt_tcount (pv 1) (pa_cons (pe_ix ix_tup (pv 4) pe_int (fun _ _ => rfl)) pa_nil))) pe_int (nomark _))
          (pss_one (ps_set (i := 4) sc_l_about.nd rfl (.inl rfl) (pe_op op_catU (pe_slice sl_tupU (pv 4) po_none (po_some pe_int)) (pe_tup (pa_cons (pe_dget hu (pv 2) (pe_ix ix_tup (pv 4) pe_int (fun _ _ => rfl)) (fun _ _ => rfl)) pa_nil)))))
          pss_nil)
        (pss_one (ps_expr (pe_bm PySem.F.plainAttrs_list PySem.F.slot_list_append PySem.F.type_list_append mt_append (pv 3) (pa_cons (pv 4) pa_nil))))))
      (pss_one (ps_ret (pe_tup (pa_cons (pe_ix ix_tup (pv 0) pe_int (fun _ _ => rfl)) (pa_cons (pe_callTy call_tuple_of (by rfl) M.tuple (by decide +kernel) (pa_cons (pv 3) pa_nil)) pa_nil)))))))), ?_⟩
    refine fun D nD => ⟨upd_same, [((Sum.inr "friend" : Key), V.str "foe"), (Sum.inr "foe", V.str "friend")], rfl, by decide, ?_⟩
    rw [upd_upd]
    generalize hkv : mergeK [] [((Sum.inr "friend" : Key), V.str "foe"), (Sum.inr "foe", V.str "friend")] = kvs
    have hk : ∀ b, valV kvs (Sum.inr (kindS b)) = some (.str (kindS (!b))) := fun b => by rw [← hkv]; exact flips b
    clear hkv
    have s1 : Same H (upd H D (.dK kvs)) := same_new nD
    have hD : (upd H D (.dK kvs)) D = some (.dK kvs) := upd_same
    generalize upd H D (.dK kvs) = H1 at s1 hD
    refine ⟨Nat.zero_le _, fun Z nZ => ?_⟩
    have s2 : Same H1 (upd H1 Z (.lst [])) := same_new nZ
    have hlen : us.length = ts.length := Paired.length hp
    refine ⟨.ref wa, rfl, wa, _, 1, .ref wb, rfl, rfl, SqT.of (s2 _ _ (s1 _ _ hwa)), rfl, wb, rfl, ⟨_, SqT.of (s2 _ _ (s1 _ _ hwb))⟩, ?_⟩
    refine for_tup (xs := us) (fun i σ' H' => ∃ (y4 : Option V) (vs : List V), σ' = [some (.ref wa), some (.ref p), some (.ref D), some (.ref Z), y4] ∧ H' Z = some (.lst vs) ∧ Paired (TieV H') vs ((ts.take i).map (turnT ps)) ∧ Same H1 H') ⟨none, [], rfl, upd_same, .nil, s2⟩ (fun i σ' H' _ h => by
      obtain ⟨y4, vs, _, _, _, s3⟩ := h
      exact SqT.of (s3 _ _ (s1 _ _ hwb))) ?_ ?_
    · rintro i x σ' H2 ex ⟨y4, vs, rfl, hZ, hv, s3⟩
      obtain ⟨t, et, a, rfl, hx⟩ := Paired.at hp ex
      have hi : i < us.length := (List.getElem?_eq_some_iff.mp ex).1
      have lv : vs.length = i := by
        rw [Paired.length hv, List.length_map, List.length_take]
        omega
      have s12 := s1.trans s3
      have hP2 := hP.same s12
      have hx2 := s12 _ _ hx
      refine ⟨fun σ' H' => ∃ u, σ' = [some (.ref wa), some (.ref p), some (.ref D), some (.ref Z), some u] ∧ TieV H' u (turnT ps t) ∧ Same H2 H', ?_, ?_⟩
      · refine ⟨.ref p, rfl, ⟨p, _, rfl, hP2⟩, .ref a, rfl, a, _, 0, _, rfl, rfl, SqT.of hx2, rfl, p, ps, t.one, rfl, rfl, hP2.sq, .ref p, rfl, ⟨p, _, rfl, hP2⟩, .ref a, rfl, a, _, 1, _, rfl, rfl, SqT.of hx2, rfl, p, ps, t.other, rfl, rfl, hP2.sq, _, _, rfl, rfl, rfl, _, rfl, ?_⟩
        rw [cnt_in nd, cnt_in nd]
        have e0 : ∀ x y : Bool, decide (V.int (((if x = true then 1 else 0 : Nat) : Int) + ((if y = true then 1 else 0 : Nat) : Int)) = V.int 1) = (x != y) := fun x y => by cases x <;> cases y <;> rfl
        rw [e0]
        by_cases e1 : inP ps t.one = inP ps t.other
        · rw [e1]
          have e2 : (inP ps t.other != inP ps t.other) = false := by cases inP ps t.other <;> rfl
          rw [e2]
          refine ⟨.ref a, rfl, ?_, Same.refl H2⟩
          unfold turnT
          rw [if_pos e1]
          exact ⟨a, rfl, hx2⟩
        · have e2 : (inP ps t.one != inP ps t.other) = true := by
            cases h1 : inP ps t.one <;> cases h2 : inP ps t.other <;> first | rfl | exact absurd (h1.trans h2.symm) e1
          rw [e2]
          refine ⟨.ref a, rfl, 2, rfl, a, _, rfl, hx2, fun r H3 s4 hr3 => ?_⟩
          have ec : cutV [V.int t.one, V.int t.other, V.str (kindS t.foe)] none (some 2) = [V.int t.one, V.int t.other] := rfl
          rw [ec] at hr3
          refine ⟨.ref D, rfl, .ref a, rfl, a, _, 2, _, rfl, rfl, SqT.of (s4 _ _ hx2), rfl, D, .str (kindS (!t.foe)), rfl, ?_, by show 1 ≤ sizeLine; decide, fun o no => ?_⟩
          · rw [← hk t.foe]
            exact DGet.k (k := Sum.inr (kindS t.foe)) (s4 _ _ (s3 _ _ hD))
          · refine ⟨r, o, _, _, rfl, rfl, same_new no _ _ hr3, upd_same, by show 3 ≤ 100000; decide, fun r5 H5 s5 h5 => ?_⟩
            refine ⟨_, rfl, ?_, (s4.trans (same_new no)).trans s5⟩
            unfold turnT
            rw [if_neg e1]
            exact ⟨r5, rfl, h5⟩
      · rintro σ' H3 ⟨u, rfl, hu3, s4⟩
        have hZ3 := s4 _ _ hZ
        refine ⟨.ref Z, rfl, .inl ⟨rfl, _, SqL.of hZ3⟩, u, rfl, Z, vs, _, rfl, rfl, hZ3, small1000 (by omega), ?_⟩
        refine ⟨_, vs ++ [u], rfl, upd_same, ?_, Same.mut (s3.trans s4) nZ⟩
        rw [map_take_succ et]
        exact Paired.snoc (ties_tk (tk_lst hZ3) (ties_tk (Same.tk s4) hv)) (hu3.tk (tk_lst hZ3))
    · rintro σ' H2 ⟨y4, vs, rfl, hZ, hv, s3⟩
      rw [hlen, List.take_length] at hv
      refine ⟨.ref wa, rfl, wa, _, 0, .int n, rfl, rfl, SqT.of (s3 _ _ (s1 _ _ hwa)), rfl, .ref Z, rfl, Z, vs, rfl, .inl ⟨SqL.of hZ, fun r nr => ⟨by show 2 ≤ sizeLine; decide, fun o no => ?_⟩⟩⟩
      have s4 : Same H2 _ := (same_new (o := .tup vs) nr).trans (same_new (o := .tup [.int n, .ref r]) no)
      exact q _ _ ((s1.trans s3).trans s4) ⟨o, r, vs, rfl, upd_same, same_new no _ _ upd_same, ties_tk (Same.tk s4) hv⟩
end
/-! ### things that are alike -/
def Lk (H : Hp) : Nat → V → V → Prop
  | 0, v, u => (∃ i, v = .int i ∧ u = .int i) ∨ (∃ z, v = .str z ∧ u = .str z)
  | k + 1, v, u => (∃ i, v = .int i ∧ u = .int i) ∨ (∃ z, v = .str z ∧ u = .str z) ∨
    ∃ a b xs ys, v = .ref a ∧ u = .ref b ∧ H a = some (.tup xs) ∧ H b = some (.tup ys) ∧ xs.length = ys.length ∧ xs.length ≤ 900 ∧ ∀ (i : Nat) x y, xs[i]? = some x → ys[i]? = some y → Lk H k x y
theorem Lk.tk {H H' : Hp} (t : Tk H H') : ∀ {k : Nat} {v u : V}, Lk H k v u → Lk H' k v u
  | 0, _, _, h => h
  | k + 1, _, _, h => by
    rcases h with h | h | ⟨a, b, xs, ys, e1, e2, h1, h2, h3, h4, h5⟩
    · exact .inl h
    · exact .inr (.inl h)
    · exact .inr (.inr ⟨a, b, xs, ys, e1, e2, t _ _ h1, t _ _ h2, h3, h4, fun i x y g1 g2 => Lk.tk t (h5 i x y g1 g2)⟩)
theorem Lk.int {H : Hp} {k : Nat} {i : Int} : Lk H k (.int i) (.int i) := by
  cases k with
  | zero => exact .inl ⟨i, rfl, rfl⟩
  | succ k => exact .inl ⟨i, rfl, rfl⟩
theorem Lk.str {H : Hp} {k : Nat} {z : Str} : Lk H k (.str z) (.str z) := by
  cases k with
  | zero => exact .inr ⟨z, rfl, rfl⟩
  | succ k => exact .inr (.inl ⟨z, rfl, rfl⟩)
theorem tie_lk {H : Hp} {v u : V} {t : Tie} (h : TieV H v t) (g : TieV H u t) : Lk H 1 v u := by
  obtain ⟨a, rfl, ha⟩ := h
  obtain ⟨b, rfl, hb⟩ := g
  refine .inr (.inr ⟨a, b, _, _, rfl, rfl, ha, hb, rfl, by show 3 ≤ 900; decide, fun i x y g1 g2 => ?_⟩)
  match i with
  | 0 => simp at g1 g2; subst g1 g2; exact Lk.int
  | 1 => simp at g1 g2; subst g1 g2; exact Lk.int
  | 2 => simp at g1 g2; subst g1 g2; exact Lk.str
  | i + 3 => simp at g1
theorem web_lk {H : Hp} {v u : V} {n : Int} {ts : List Tie} (h : WebAt H v n ts) (g : WebAt H u n ts) (few : ts.length ≤ 120) : Lk H 3 v u := by
  obtain ⟨a, a2, vs, rfl, h1, h2, h3⟩ := h
  obtain ⟨b, b2, us, rfl, g1, g2, g3⟩ := g
  refine .inr (.inr ⟨a, b, _, _, rfl, rfl, h1, g1, rfl, by show 2 ≤ 900; decide, fun i x y e1 e2 => ?_⟩)
  match i with
  | 0 => simp at e1 e2; subst e1 e2; exact Lk.int
  | 1 =>
    simp at e1 e2
    subst e1 e2
    have l1 := Paired.length h3
    have l2 := Paired.length g3
    refine .inr (.inr ⟨a2, b2, _, _, rfl, rfl, h2, g2, by omega, by omega, fun i x y e1 e2 => ?_⟩)
    obtain ⟨t, f1, f2⟩ := Paired.at h3 e1
    obtain ⟨t', f3, f4⟩ := Paired.at g3 e2
    rw [f1] at f3
    cases f3
    exact tie_lk f2 f4
  | i + 2 => simp at e1
theorem ints_lk {H : Hp} {a b : Addr} {xs : List Int} (h : H a = some (.tup (xs.map V.int))) (g : H b = some (.tup (xs.map V.int))) (few : xs.length ≤ 900) : Lk H 1 (.ref a) (.ref b) := by
  refine .inr (.inr ⟨a, b, _, _, rfl, rfl, h, g, rfl, by rw [List.length_map]; exact few, fun i x y e1 e2 => ?_⟩)
  rw [e1] at e2
  cases e2
  rw [List.getElem?_map] at e1
  obtain ⟨z, _, rfl⟩ := Option.map_eq_some_iff.mp e1
  exact Lk.int
def spSame : Nat → Sp
  | 0 => fun _ _ _ _ => False
  | k + 1 => fun vs H Q _ => ∃ v u, vs = [v, u] ∧ Lk H k v u ∧ ∀ H', Same H H' → Q (.bl true) H'
def isS : V → Bool
  | .str _ => true
  | _ => false
theorem kn_str {K : PySem.W.Frag} {H : Hp} {v : V} (h : Kn H v) : ∃ t, TyX K H v t ∧ PySem.W.kitOne K t (.type "str") = some (isS v) := by
  cases v with
  | non => exact ⟨_, .base .non, kit_ty (r := false) (by decide +kernel)⟩
  | bl b => exact ⟨_, .base (.bl b), kit_ty (r := false) (by decide +kernel)⟩
  | int i => exact ⟨_, .base (.int i), kit_ty (r := false) (by decide +kernel)⟩
  | str x => exact ⟨_, .base (.str x), kit_ty (r := true) (by decide +kernel)⟩
  | ref a =>
    rcases h with ⟨xs, h⟩ | ⟨xs, h⟩ | ⟨xs, h⟩
    · exact ⟨_, .base (.lst h), kit_ty (r := false) (by decide +kernel)⟩
    · exact ⟨_, .base (.tup h), kit_ty (r := false) (by decide +kernel)⟩
    · exact ⟨_, .base (.dK h), kit_ty (r := false) (by decide +kernel)⟩
  | byt b => exact h.elim
  | flt b => exact h.elim
  | ty n => exact h.elim
section
variable {P : Program} {w : World} {K : PySem.W.Frag} {mg : Str → Option Value} {base : Heap}
theorem ok_l_same {f : Addr} {fd : FuncData} (F : Fun K "_law_same" "_law_same" s_l_same f fd) (M : Free mg) (mall : mg "all" = none) (mzip : mg "zip" = none) (gS : mg "_law_same" = some (.ref f)) (bS : Binds K fd ["_law_found", "_law_due"] []) :
    ∀ k : Nat, FnOk P w K mg base CX0 k f fd ["_law_found", "_law_due"] (spSame k)
  | 0 => ⟨fun vs H Q E h => h.elim, fun B out z H ar us vs Q E _ _ _ _ h => h.elim⟩
  | k + 1 => by
    have GS := ok_l_same F M mall mzip gS bS k
    refine F.ok sc_l_same (fun vs H Q E h => ?_) (fun cdv A outer s H vs Q E hr h => ?_)
    · obtain ⟨v, u, rfl, _⟩ := h
      rfl
    · obtain ⟨v, u, rfl, hl, q⟩ := h
      refine ⟨_, (pss_cons (ps_if (pt_val (pe_callB call_isi (by rfl) M.isinstance (by decide +kernel) (pa_cons (pv 1) (pa_cons (pe_bltn (v := .ty "tuple") (by rfl) M.tuple (by decide +kernel) rfl) pa_nil))))
        (pss_cons (ps_if (PW.pt (pw_or (pt_not (pt_val (pe_callB call_isi (by rfl) M.isinstance (by decide +kernel) (pa_cons (pv 0) (pa_cons (pe_bltn (v := .ty "tuple") (by rfl) M.tuple (by decide +kernel) rfl) pa_nil))))) (pw_or1 (pt_cmpR op_ne (pe_callB call_len_seq (by rfl) M.len PySem.boot_len (pa_cons (pv 0) pa_nil)) (pe_callB call_len_seq (by rfl) M.len PySem.boot_len (pa_cons (pv 1) pa_nil)) (nomark _)))))
          (pss_one (ps_ret pe_bl))
          pss_nil)
        (pss_one (ps_ret (pe_callB (cr_all rfl) (by rfl) mall (by decide +kernel) (pa_cons (pe_lc (own := [("_law_one", 2), ("_law_other", 3)]) (g := gTup K 2 (gCons (gName 2) (gCons (gName 3) gNil))) (tt := tYes) rfl sc_l_same.nd (RZ.pi_zipA (by rfl) mzip (pa_cons (pv 0) (pa_cons (pv 1) pa_nil))) (blkOk_by (N := N_l_same) (sc := defScope s_l_same) (own := [("_law_one", 2), ("_law_other", 3)]) (by decide +kernel)) (fun _ _ _ _ _ => (pg_tup rfl (pgs_cons (pg_name (i := 2) sc_l_same.nd rfl (.inl rfl)) (pgs_cons (pg_name (i := 3) sc_l_same.nd rfl (.inl rfl)) pgs_nil)))) (fun _ _ _ _ _ => pts_nil) (fun _ _ _ _ _ => (pe_call GS hr (by rfl) gS F.kp bS .nil pass0 (pa_cons (pv 2) (pa_cons (pv 3) pa_nil))))) pa_nil)))))
        pss_nil)
      (pss_cons (ps_if (PW.pt (pw_or (pt_val (pe_callB call_isi (by rfl) M.isinstance (by decide +kernel) (pa_cons (pv 1) (pa_cons (pe_bltn (v := .ty "bool") (by rfl) M.bool (by decide +kernel) rfl) pa_nil)))) (pw_or1 (pt_val (pe_callB call_isi (by rfl) M.isinstance (by decide +kernel) (pa_cons (pv 0) (pa_cons (pe_bltn (v := .ty "bool") (by rfl) M.bool (by decide +kernel) rfl) pa_nil)))))))
        (pss_one (ps_ret (pe_and (pe_callB call_isi (by rfl) M.isinstance (by decide +kernel) (pa_cons (pv 1) (pa_cons (pe_bltn (v := .ty "bool") (by rfl) M.bool (by decide +kernel) rfl) pa_nil))) (pe_and (pe_callB call_isi (by rfl) M.isinstance (by decide +kernel) (pa_cons (pv 0) (pa_cons (pe_bltn (v := .ty "bool") (by rfl) M.bool (by decide +kernel) rfl) pa_nil))) (pe_one (pe_cmpR op_eq (pv 0) (pv 1) (nomark _)))))))
        pss_nil)
      (pss_cons (ps_if (pt_val (pe_callB call_isi (by rfl) M.isinstance (by decide +kernel) (pa_cons (pv 1) (pa_cons (pe_bltn (v := .ty "int") (by rfl) M.int (by decide +kernel) rfl) pa_nil))))
        (pss_one (ps_ret (pe_and (pe_callB call_isi (by rfl) M.isinstance (by decide +kernel) (pa_cons (pv 0) (pa_cons (pe_bltn (v := .ty "int") (by rfl) M.int (by decide +kernel) rfl) pa_nil))) (pe_one (pe_cmpR op_eq (pv 0) (pv 1) (nomark _))))))
        pss_nil)
      (pss_one (ps_ret (pe_and (pe_cmpR op_eq (pv 0) (pv 1) (nomark _)) (pe_one (pe_cmpR op_eq (pe_callB call_isi (by rfl) M.isinstance (by decide +kernel) (pa_cons (pv 0) (pa_cons (pe_bltn (v := .ty "str") (by rfl) M.str (by decide +kernel) rfl) pa_nil))) (pe_callB call_isi (by rfl) M.isinstance (by decide +kernel) (pa_cons (pv 1) (pa_cons (pe_bltn (v := .ty "str") (by rfl) M.str (by decide +kernel) rfl) pa_nil))) (nomark _))))))))), ?_⟩
      have leaf : (∃ i, v = .int i ∧ u = .int i) ∨ (∃ z, v = .str z ∧ u = .str z) ∨ (∃ (j : Nat) (_ : k = j + 1) (a b : Addr) (xs ys : List V), v = .ref a ∧ u = .ref b ∧ H a = some (.tup xs) ∧ H b = some (.tup ys) ∧ xs.length = ys.length ∧ xs.length ≤ 900 ∧ ∀ (i : Nat) x y, xs[i]? = some x → ys[i]? = some y → Lk H j x y) := by
        cases k with
        | zero =>
          rcases hl with h | h
          · exact .inl h
          · exact .inr (.inl h)
        | succ j =>
          rcases hl with h | h | ⟨a, b, xs, ys, h⟩
          · exact .inl h
          · exact .inr (.inl h)
          · exact .inr (.inr ⟨j, rfl, a, b, xs, ys, h⟩)
      rcases leaf with ⟨i, rfl, rfl⟩ | ⟨z, rfl, rfl⟩ | ⟨j, rfl, a, b, xs, ys, rfl, rfl, ha, hb, hlen, few, hh⟩
      · obtain ⟨t1, h1, e1⟩ := kn_tup (K := K) (H := H) (v := .int i) trivial
        obtain ⟨t2, h2, e2⟩ := kn_bool (K := K) (H := H) (v := .int i) trivial
        obtain ⟨t3, h3, e3⟩ := kn_int (K := K) (H := H) (v := .int i) trivial
        refine ⟨.int i, rfl, .int i, _, t1, _, _, rfl, .ty "tuple", h1, e1, _, rfl, ?_⟩
        refine ⟨.int i, rfl, .int i, _, t2, _, _, rfl, .ty "bool", h2, e2, _, rfl, .int i, rfl, .int i, _, t2, _, _, rfl, .ty "bool", h2, e2, _, rfl, ?_⟩
        refine ⟨.int i, rfl, .int i, _, t3, _, _, rfl, .ty "int", h3, e3, _, rfl, ?_⟩
        refine ⟨.int i, rfl, .int i, _, t3, _, _, rfl, .ty "int", h3, e3, _, rfl, .int i, rfl, .int i, rfl, rfl, ?_⟩
        rw [decide_eq_true rfl]
        exact q _ (Same.refl H)
      · obtain ⟨t1, h1, e1⟩ := kn_tup (K := K) (H := H) (v := .str z) trivial
        obtain ⟨t2, h2, e2⟩ := kn_bool (K := K) (H := H) (v := .str z) trivial
        obtain ⟨t3, h3, e3⟩ := kn_int (K := K) (H := H) (v := .str z) trivial
        obtain ⟨t4, h4, e4⟩ := kn_str (K := K) (H := H) (v := .str z) trivial
        refine ⟨.str z, rfl, .str z, _, t1, _, _, rfl, .ty "tuple", h1, e1, _, rfl, ?_⟩
        refine ⟨.str z, rfl, .str z, _, t2, _, _, rfl, .ty "bool", h2, e2, _, rfl, .str z, rfl, .str z, _, t2, _, _, rfl, .ty "bool", h2, e2, _, rfl, ?_⟩
        refine ⟨.str z, rfl, .str z, _, t3, _, _, rfl, .ty "int", h3, e3, _, rfl, ?_⟩
        refine ⟨.str z, rfl, .str z, rfl, rfl, _, rfl, ?_⟩
        rw [decide_eq_true rfl]
        refine ⟨.str z, rfl, .str z, _, t4, _, _, rfl, .ty "str", h4, e4, .str z, rfl, .str z, _, t4, _, _, rfl, .ty "str", h4, e4, rfl, ?_⟩
        rw [decide_eq_true rfl]
        exact q _ (Same.refl H)
      · obtain ⟨t1, h1, e1⟩ := kn_tup (K := K) (H := H) (v := .ref b) (.inr (.inl ⟨_, hb⟩))
        obtain ⟨t2, h2, e2⟩ := kn_tup (K := K) (H := H) (v := .ref a) (.inr (.inl ⟨_, ha⟩))
        rw [isT_of hb] at e1
        rw [isT_of ha] at e2
        refine ⟨.ref b, rfl, .ref b, _, t1, _, _, rfl, .ty "tuple", h1, e1, _, rfl, ?_⟩
        refine ⟨.ref a, rfl, .ref a, _, t2, _, _, rfl, .ty "tuple", h2, e2, _, rfl, ?_⟩
        refine ⟨.ref a, rfl, a, xs, rfl, .inr (SqT.of ha), .ref b, rfl, b, ys, rfl, .inr (SqT.of hb), rfl, _, rfl, ?_⟩
        rw [hlen, decide_eq_true rfl]
        refine ⟨.ref a, rfl, .ref b, rfl, a, b, xs, ys, rfl, .inr ⟨SqT.of ha, SqT.of hb, fun Z nZ => ?_⟩⟩
        refine lc_it (walk_zipT (xs := xs) (ys := ys) (n := xs.length) (by omega)) (fun i H' => H' Z = some (.lst ((List.replicate i true).map V.bl)) ∧ Same H H') ⟨upd_same, same_new nZ⟩ (fun i H' _ h => ⟨SqT.of (h.2 _ _ ha), SqT.of (h.2 _ _ hb)⟩) ?_ ?_
        · rintro i x H1 H2 hi ⟨hZ, s1⟩ ⟨T, x1, y1, rfl, nT, rfl, g1, g2⟩
          have s2 := s1.trans (same_new (o := .tup [x1, y1]) nT)
          have hZ2 := same_new (o := .tup [x1, y1]) nT _ _ hZ
          refine ⟨T, _, rfl, SqT.of upd_same, rfl, _, _, rfl, _, _, rfl, rfl, rfl, x1, rfl, y1, rfl, x1, y1, rfl, (hh i x1 y1 g1 g2).tk (Same.tk s2), fun H3 s3 => ?_⟩
          refine ⟨_, s3 _ _ hZ2, by rw [List.length_map, List.length_replicate]; exact small1000 (by omega), ?_, Same.mut (s2.trans s3) nZ⟩
          rw [upd_same, List.replicate_succ', List.map_append]
          rfl
        · rintro H1 ⟨hZ, s1⟩
          refine ⟨Z, _, rfl, SqL.of hZ, ?_⟩
          have ea : (List.replicate xs.length true).all id = true := by
            rw [List.all_eq_true]
            intro x hx
            rw [List.eq_of_mem_replicate hx]
            rfl
          rw [ea]
          exact q _ s1
end
/-! ### rows of numbers as data -/
def IntsV (H : Hp) (v : V) (xs : List Int) : Prop := ∃ b, v = .ref b ∧ H b = some (.tup (xs.map V.int))
theorem IntsV.tk {H H' : Hp} (k : Tk H H') {v : V} {xs : List Int} (h : IntsV H v xs) : IntsV H' v xs := by
  obtain ⟨a, rfl, e⟩ := h
  exact ⟨a, rfl, k _ _ e⟩
def intsD (xs : List Int) : PyData := .tuple (xs.map PyData.int)
section
variable {K : PySem.W.Frag} {H : Hp}
theorem dp_ints : ∀ (xs : List Int), DpAll K H (xs.map V.int) (xs.map PyData.int)
  | [] => .nil
  | x :: xs => .cons (.int x) (dp_ints xs)
theorem IntsV.dp {v : V} {xs : List Int} (h : IntsV H v xs) : Dp K H v (intsD xs) := by
  obtain ⟨b, rfl, e⟩ := h
  exact .tup (SqT.of e) (dp_ints xs)
end
theorem lay_ints : ∀ xs : List Int, PyData.canLayAll0 (xs.map PyData.int) = true
  | [] => by simp [PyData.canLayAll0]
  | x :: xs => by simp [PyData.canLayAll0, PyData.canLay0, lay_ints xs]
theorem deep_ints : ∀ xs : List Int, PyData.depthAll (xs.map PyData.int) = 0
  | [] => by simp [PyData.depthAll]
  | x :: xs => by simp [PyData.depthAll, PyData.depth, deep_ints xs]
theorem lay_intsD (xs : List Int) : (intsD xs).canLay0 = true := by
  unfold intsD
  rw [PyData.canLay0]
  exact lay_ints xs
theorem deep_intsD (xs : List Int) : (intsD xs).depth = 1 := by
  unfold intsD
  rw [PyData.depth, deep_ints]
theorem shaped_intsD (xs : List Int) : SeqAt.shaped (intsD xs) = true := by
  unfold SeqAt.shaped
  rw [lay_intsD, deep_intsD]
  rfl
theorem eqv_nil (xs : List Int) : PyData.eqv (intsD xs) (intsD []) = xs.isEmpty := by
  unfold intsD
  rw [PyData.eqv]
  cases xs <;> rfl

/-! ### data that repr tells -/
structure Fine (k w : Nat) (d : PyData) : Prop where
  lay : d.canLay0 = true
  shw : d.showable = true
  nod : d.hasDict = false
  sho : d.intsShort 13 = true
  dep : d.depth ≤ k
  wei : d.weight ≤ w
theorem Fine.int {i : Int} (h0 : -1000 ≤ i) (h1 : i < 1000) : Fine 0 10 (.int i) := by
  have hn : i.natAbs < 1024 := by omega
  have hl : i.natAbs.log2 < 10 ∨ i.natAbs = 0 := by
    by_cases e : i.natAbs = 0
    · exact .inr e
    · exact .inl ((Nat.log2_lt e).mpr (by omega))
  have hl2 : i.natAbs.log2 < 1920 := by
    rcases hl with h | h
    · omega
    · rw [h]
      decide
  refine ⟨rfl, ?_, rfl, ?_, Nat.le_refl _, ?_⟩
  · rw [PyData.showable]
    exact decide_eq_true hl2
  · have h3 := PyProof.Rows.intsShortAll_ints2 [i] (fun n hn => by rw [List.mem_singleton.mp hn]; omega)
    simpa [PyData.intsShortAll] using h3
  · rw [PyData.weight]
    split
    · omega
    · rename_i e
      rcases hl with h | h
      · omega
      · exact absurd (by simpa using h) e
theorem Fine.non : Fine 0 0 .none := ⟨rfl, rfl, rfl, rfl, Nat.le_refl _, Nat.le_refl _⟩
theorem Fine.bool (b : Bool) : Fine 0 0 (.bool b) := ⟨rfl, rfl, rfl, rfl, Nat.le_refl _, Nat.le_refl _⟩
theorem Fine.str {x : Str} (h1 : (PyData.str x).canLay0 = true) (h2 : x.cps.size ≤ 100) : Fine 0 100 (.str x) := ⟨h1, rfl, rfl, rfl, Nat.le_refl _, h2⟩
theorem Fine.mono {k k' w w' : Nat} {d : PyData} (h : Fine k w d) (hk : k ≤ k') (hw : w ≤ w') : Fine k' w' d := ⟨h.lay, h.shw, h.nod, h.sho, Nat.le_trans h.dep hk, Nat.le_trans h.wei hw⟩
theorem fine_all {k w : Nat} : ∀ {xs : List PyData}, (∀ x ∈ xs, Fine k w x) → PyData.canLayAll0 xs = true ∧ PyData.showableAll xs = true ∧ PyData.hasDictAll xs = false ∧ PyData.intsShortAll 13 xs = true ∧ PyData.depthAll xs ≤ k ∧ PyData.weightAll xs ≤ xs.length * (w + 1)
  | [], _ => by simp [PyData.canLayAll0, PyData.showableAll, PyData.hasDictAll, PyData.intsShortAll, PyData.depthAll, PyData.weightAll]
  | x :: xs, h => by
    obtain ⟨h1, h2, h3, h4, h5, h6⟩ := fine_all (xs := xs) fun y hy => h y (List.mem_cons_of_mem _ hy)
    obtain ⟨g1, g2, g3, g4, g5, g6⟩ := h x (by simp)
    refine ⟨by rw [PyData.canLayAll0, g1, h1]; rfl, by rw [PyData.showableAll, g2, h2]; rfl, by rw [PyData.hasDictAll, g3, h3]; rfl, by rw [PyData.intsShortAll, g4, h4]; rfl, ?_, ?_⟩
    · rw [PyData.depthAll]
      omega
    · rw [PyData.weightAll, List.length_cons, Nat.succ_mul]
      omega
theorem Fine.tup {k w n : Nat} {xs : List PyData} (h : ∀ x ∈ xs, Fine k w x) (hn : xs.length ≤ n) : Fine (k + 1) (n * (w + 1)) (.tuple xs) := by
  obtain ⟨h1, h2, h3, h4, h5, h6⟩ := fine_all h
  refine ⟨by rw [PyData.canLay0]; exact h1, by rw [PyData.showable]; exact h2, by rw [PyData.hasDict]; exact h3, by rw [PyData.intsShort]; exact h4, by rw [PyData.depth]; omega, ?_⟩
  rw [PyData.weight]
  exact Nat.le_trans h6 (Nat.mul_le_mul_right _ hn)
theorem Fine.len {k w : Nat} {d : PyData} (h : Fine k w d) (hk : k ≤ 60) (hw : w ≤ 1000000) : d.shown.length ≤ sizeLine := by
  have hl : PyData.layable0 d = true := by
    unfold PyData.layable0
    rw [h.lay, decide_eq_true (show d.depth ≤ 64 by have := h.dep; omega), decide_eq_true (show d.weight ≤ 2 ^ 20 by have := h.wei; omega)]
    rfl
  have := PyProof.Rows.shown_le13 hl h.sho
  rw [sizeLine_eq]
  omega
def tieD (t : Tie) : PyData := .tuple [.int t.one, .int t.other, .str (kindS t.foe)]
def webD (n : Int) (ts : List Tie) : PyData := .tuple [.int n, .tuple (ts.map tieD)]
theorem kind_ok (b : Bool) : (PyData.str (kindS b)).canLay0 = true ∧ (kindS b).cps.size ≤ 100 := by cases b <;> decide +kernel
theorem Fine.tie {n : Int} {t : Tie} (h : TieOk n t) (hn : n ≤ 40) : Fine 1 303 (tieD t) := by
  obtain ⟨h1, h2, h3, h4, _⟩ := h
  refine (Fine.tup (k := 0) (w := 100) (n := 3) (fun x hx => ?_) (Nat.le_refl _)).mono (Nat.le_refl _) (by decide)
  simp only [List.mem_cons, List.not_mem_nil, or_false] at hx
  rcases hx with rfl | rfl | rfl
  · exact (Fine.int (by omega) (by omega)).mono (Nat.le_refl _) (by decide)
  · exact (Fine.int (by omega) (by omega)).mono (Nat.le_refl _) (by decide)
  · exact Fine.str (kind_ok _).1 (kind_ok _).2
theorem Fine.web {n : Int} {ts : List Tie} (h : WebOk n ts) : Fine 3 80000 (webD n ts) := by
  have h1 := h.lo
  have h2 := h.hi
  have ft : Fine 2 36480 (.tuple (ts.map tieD)) := (Fine.tup (k := 1) (w := 303) (n := 120) (fun x hx => by
    obtain ⟨t, ht, rfl⟩ := List.mem_map.mp hx
    exact Fine.tie (h.ok t ht) h2) (by rw [List.length_map]; exact h.few)).mono (Nat.le_refl _) (by decide)
  refine (Fine.tup (k := 2) (w := 36480) (n := 2) (fun x hx => ?_) (Nat.le_refl _)).mono (Nat.le_refl _) (by decide)
  simp only [List.mem_cons, List.not_mem_nil, or_false] at hx
  rcases hx with rfl | rfl
  · exact (Fine.int (by omega) (by omega)).mono (by decide) (by decide)
  · exact ft
theorem Fine.intsD {xs : List Int} (h : ∀ x ∈ xs, 0 ≤ x ∧ x < 1000) (hl : xs.length ≤ 200) : Fine 1 2200 (intsD xs) :=
  (Fine.tup (k := 0) (w := 10) (n := 200) (fun x hx => by
    obtain ⟨i, hi, rfl⟩ := List.mem_map.mp hx
    have := h i hi
    exact Fine.int (by omega) (by omega)) (by rw [List.length_map]; exact hl)).mono (Nat.le_refl _) (by decide)
theorem dp_ties {K : PySem.W.Frag} {H : Hp} : ∀ {vs : List V} {ts : List Tie}, Paired (TieV H) vs ts → DpAll K H vs (ts.map tieD)
  | _, _, .nil => .nil
  | _, _, .cons r t => by
    obtain ⟨a, rfl, e⟩ := r
    exact .cons (.tup (SqT.of e) (.cons (.int _) (.cons (.int _) (.cons (.str _) .nil)))) (dp_ties t)
theorem WebAt.dp {K : PySem.W.Frag} {H : Hp} {v : V} {n : Int} {ts : List Tie} (h : WebAt H v n ts) : Dp K H v (webD n ts) := by
  obtain ⟨a, b, vs, rfl, h1, h2, h3⟩ := h
  exact .tup (SqT.of h1) (.cons (.int _) (.cons (.tup (SqT.of h2) (dp_ties h3)) .nil))
/-! ### drawn places -/
theorem flat_ints (xs : List Int) : (xs.map V.int).all flatV = true := by
  rw [List.all_map, List.all_eq_true]
  intro x _
  rfl
theorem in_ints (ps : List Int) (i : Int) : inV (.int i) (ps.map V.int) = inP ps i := by
  rw [Bool.eq_iff_iff]
  unfold inV inP
  rw [List.any_map, List.any_eq_true, decide_eq_true_iff]
  constructor
  · rintro ⟨x, hx, e⟩
    have e' : (x == i) = true := e
    rw [beq_iff_eq] at e'
    subst e'
    exact hx
  · intro h
    exact ⟨i, h, by show (i == i) = true; simp⟩
theorem rgV_rng (m : Int) : rgV 0 m = (rng m.toNat).map V.int := by
  unfold rgV rng
  rw [List.map_map]
  have e : (m - 0).toNat = m.toNat := by omega
  rw [e]
  refine List.map_congr_left fun i _ => ?_
  show V.int (0 + (i : Nat)) = V.int (i : Nat)
  rw [Int.zero_add]
theorem rising_nodup {xs : List Int} (h : xs.Pairwise (· < ·)) : xs.Nodup := h.imp fun h => by omega
theorem filter_rng_succ (p : Int → Bool) (i : Nat) : ((rng (i + 1)).filter p).map V.int = ((rng i).filter p).map V.int ++ (if p i = true then [V.int i] else []) := by
  rw [rng_succ, List.filter_append, List.map_append, List.filter_cons]
  by_cases h : p i = true
  · rw [if_pos h, if_pos h]
    rfl
  · rw [if_neg h, if_neg h]
    rfl
theorem filter_rng_len (p : Int → Bool) (i : Nat) : ((rng i).filter p).length ≤ i := by
  have := List.length_filter_le p (rng i)
  rw [rng_length] at this
  exact this
def spPlaces : Sp := fun vs H Q _ => ∃ (d : Addr) (b : Nat) (n : Int), vs = [.ref d, .int n] ∧ Well H d b ∧ b < 2 ^ 50 ∧ 1 ≤ n ∧ n ≤ 40 ∧
  ∀ (p : Addr) (ps : List Int) (H' : Hp), NoD H' p (ps.map V.int) → ps.Pairwise (· < ·) → (∀ x ∈ ps, 0 ≤ x ∧ x < n) → ps.length ≤ 40 → Well H' d (b + 100) → Kp d d H H' → Q (.ref p) H'
section
variable {P : Program} {w : World} {K : PySem.W.Frag} {mg : Str → Option Value} {base : Heap}
theorem ok_l_places {f : Addr} {fd : FuncData} (F : Fun K "_law_places" "_law_places" s_l_places f fd) (M : Free mg) (Dd : Df P w K mg base 1 "_law_draw" ["_law_well_here", "_law_most"] spDraw) : FnOk P w K mg base CX0 2 f fd ["_law_well_here", "_law_many"] spPlaces := by
  obtain ⟨fD, fdD, GD, gD, kD, bD⟩ := Dd
  refine F.ok sc_l_places (fun vs H Q E h => ?_) (fun cdv A outer s H vs Q E hr h => ?_)
  · obtain ⟨d, b, n, rfl, _⟩ := h
    rfl
  · obtain ⟨d, b, n, rfl, hD, hB, hn1, hn2, q⟩ := h
    obtain ⟨k, rfl⟩ : ∃ k : Nat, n = k := ⟨n.toNat, by omega⟩
    refine ⟨_, (pss_cons (ps_set (i := 2) sc_l_places.nd rfl (.inl rfl) (pe_call GD hr (by rfl) gD kD bD .nil pass0 (pa_cons (pv 0) (pa_cons pe_int pa_nil))))
      (pss_cons (ps_if (pt_cmpR op_lt (pv 2) pe_int (nomark _))
        (pss_one (ps_ret (pe_tupRgZ rfl (by rfl) M.tuple (prg_1 (by rfl) M.range (pe_op op_mul (pv 1) (pv 2))))))
        pss_nil)
      (pss_one (ps_ret (pe_callTy call_tuple_ofZ (by rfl) M.tuple (by decide +kernel) (pa_cons (pe_lc (own := [("_law_place", 3)]) (g := gName 3) (te := tVar 3) rfl sc_l_places.nd (pi_range1 (by rfl) M.range (pa_cons (pv 1) pa_nil)) (blkOk_by (N := N_l_places) (sc := defScope s_l_places) (own := [("_law_place", 3)]) (by decide +kernel)) (fun _ _ _ _ _ => (pg_name (i := 3) sc_l_places.nd rfl (.inl rfl))) (fun _ _ _ _ _ => (pts_one (pt_cmpR op_eq (pe_call GD hr (by rfl) gD kD bD .nil pass0 (pa_cons (pv 0) (pa_cons pe_int pa_nil))) pe_int (nomark _)))) (fun _ _ _ _ _ => (pv 3))) pa_nil)))))), ?_⟩
    refine ⟨.ref d, rfl, d, b, 8, rfl, hD, by omega, by decide, by decide, fun v H1 a1 b1 D1 K1 => ?_⟩
    refine ⟨.int v, rfl, v, 2, rfl, rfl, _, rfl, ite2 (fun e => ?_) (fun e => ?_)⟩
    · have hv := of_decide_eq_true e
      have hm : 0 ≤ (k : Int) * v ∧ (k : Int) * v ≤ k := by
        have h01 : v = 0 ∨ v = 1 := by omega
        rcases h01 with e | e <;> subst e <;> omega
      refine ⟨.int k, rfl, .int v, rfl, k, v, rfl, rfl, .inl ⟨by omega, by omega⟩, _, rfl, RgOk.of_le (by omega) (by omega) (by omega) (by omega), fun r o od nr => ?_⟩
      refine q r (rng ((k : Int) * v).toNat) _ ⟨o, od, by rw [upd_same, rgV_rng]⟩ (rng_rising _) (fun x hx => ?_) (by rw [rng_length]; omega) ((D1.new nr).mono (by omega)) (K1.trans (Kp.new nr))
      have := mem_rng.mp hx
      omega
    · refine ⟨.int k, rfl, k, rfl, by omega, by omega, fun Z nZ => ?_⟩
      rw [Int.toNat_natCast]
      have hZd := D1.ned nZ
      have nZ0 := K1.free nZ hZd hZd
      refine lc_range (lo := 0) (n := k) (fun i H' => ∃ ps : List Int, H' Z = some (.lst (ps.map V.int)) ∧ ps.length ≤ i ∧ ps.Pairwise (· < ·) ∧ (∀ x ∈ ps, 0 ≤ x ∧ x < i) ∧ Well H' d (b + 1 + i) ∧ Kp d d H H') ⟨[], upd_same, Nat.le_refl _, .nil, fun x hx => by simp at hx, D1.new nZ, K1.trans (Kp.new nZ)⟩ ?_ ?_
      · rintro i H2 hi ⟨ps, h2, l2, r2, o2, D2, K2⟩
        refine ⟨rfl, .ref d, rfl, d, _, 2, rfl, D2, by omega, by decide, by decide, fun y H3 a3 b3 D3 K3 => ⟨rfl, _, rfl, ?_⟩⟩
        have h3 := K3 _ _ hZd hZd h2
        refine ite2 (fun _ => ?_) (fun _ => ?_)
        · rw [show (0 : Int) + (i : Nat) = i from by omega]
          refine ⟨.int i, rfl, _, h3, by rw [List.length_map]; exact small1000 (by omega), ps ++ [(i : Int)], by rw [upd_same, List.map_append]; rfl, by rw [List.length_append]; show ps.length + 1 ≤ i + 1; omega, ?_, fun x hx => ?_, (D3.mut hZd).mono (by omega), (K2.trans K3).mut nZ0⟩
          · rw [List.pairwise_append]
            refine ⟨r2, by simp, fun x hx y hy => ?_⟩
            rw [List.mem_singleton.mp hy]
            exact (o2 x hx).2
          · rcases List.mem_append.mp hx with h | h
            · have := o2 x h
              omega
            · rw [List.mem_singleton.mp h]
              omega
        · exact ⟨ps, h3, by omega, r2, fun x hx => by have := o2 x hx; omega, D3.mono (by omega), K2.trans K3⟩
      · rintro H2 ⟨ps, h2, l2, r2, o2, D2, K2⟩
        refine ⟨Z, _, rfl, SqL.of h2, fun r o od nr => ?_⟩
        exact q r ps _ ⟨o, od, upd_same⟩ r2 o2 (by omega) ((D2.new nr).mono (by omega)) (K2.trans (Kp.new nr))
end
/-! ### stems (mathematics) -/
theorem Rch.mono {ts ts' : List Tie} (h : ∀ t ∈ ts, t ∈ ts') {a b : Int} (r : Rch ts a b) : Rch ts' a b :=
  r.ind (fun x => Rch ts' a x) .refl fun x y k hx ad => by
    obtain ⟨t, ht, e⟩ := ad
    exact hx.trans (Rch.adj (k := k) ⟨t, h t ht, e⟩)
theorem rch_pq {ts : List Tie} {t : Tie} {p q : Int} (h : (p = t.one ∧ q = t.other) ∨ (p = t.other ∧ q = t.one)) : Rch (ts ++ [t]) p q := by
  refine Rch.adj (k := t.foe) ⟨t, List.mem_append_right _ (by simp), rfl, ?_⟩
  rcases h with ⟨h1, h2⟩ | ⟨h1, h2⟩
  · exact .inl ⟨h1.symm, h2.symm⟩
  · exact .inr ⟨h2.symm, h1.symm⟩
theorem rch_snoc {ts : List Tie} {t : Tie} {p q : Int} (h : (p = t.one ∧ q = t.other) ∨ (p = t.other ∧ q = t.one)) {a b : Int} : Rch (ts ++ [t]) a b ↔ Rch ts a b ∨ (Rch ts a p ∧ Rch ts q b) ∨ (Rch ts a q ∧ Rch ts p b) := by
  have up : ∀ {x y : Int}, Rch ts x y → Rch (ts ++ [t]) x y := fun r => r.mono fun t ht => List.mem_append_left _ ht
  constructor
  · intro r
    refine r.ind (fun x => Rch ts a x ∨ (Rch ts a p ∧ Rch ts q x) ∨ (Rch ts a q ∧ Rch ts p x)) (.inl .refl) fun x y k hx ad => ?_
    obtain ⟨t', ht, e1, e2⟩ := ad
    rcases List.mem_append.mp ht with ht | ht
    · have st : Rch ts x y := Rch.adj (k := k) ⟨t', ht, e1, e2⟩
      rcases hx with h1 | ⟨h1, h2⟩ | ⟨h1, h2⟩
      · exact .inl (h1.trans st)
      · exact .inr (.inl ⟨h1, h2.trans st⟩)
      · exact .inr (.inr ⟨h1, h2.trans st⟩)
    · rw [List.mem_singleton] at ht
      subst ht
      have xy : (x = p ∧ y = q) ∨ (x = q ∧ y = p) := by
        rcases e2 with ⟨e2, e3⟩ | ⟨e2, e3⟩ <;> rcases h with ⟨h1, h2⟩ | ⟨h1, h2⟩
        · exact .inl ⟨by omega, by omega⟩
        · exact .inr ⟨by omega, by omega⟩
        · exact .inr ⟨by omega, by omega⟩
        · exact .inl ⟨by omega, by omega⟩
      rcases xy with ⟨rfl, rfl⟩ | ⟨rfl, rfl⟩
      · rcases hx with h1 | ⟨h1, h2⟩ | ⟨h1, h2⟩
        · exact .inr (.inl ⟨h1, .refl⟩)
        · exact .inr (.inl ⟨h1, .refl⟩)
        · exact .inl h1
      · rcases hx with h1 | ⟨h1, h2⟩ | ⟨h1, h2⟩
        · exact .inr (.inr ⟨h1, .refl⟩)
        · exact .inl h1
        · exact .inr (.inr ⟨h1, .refl⟩)
  · rintro (h1 | ⟨h1, h2⟩ | ⟨h1, h2⟩)
    · exact up h1
    · exact (up h1).trans ((rch_pq h).trans (up h2))
    · exact (up h1).trans ((rch_pq h).symm.trans (up h2))
theorem rch_nil {a b : Int} (h : Rch [] a b) : a = b := h.ind (fun x => a = x) rfl fun x y k _ ad => by
  obtain ⟨t, ht, _⟩ := ad
  simp at ht
def tieN (ts : List Tie) (k : Nat) : Tie := ts.getD k ⟨0, 0, false⟩
theorem tieN_of {ts : List Tie} {k : Nat} {t : Tie} (h : ts[k]? = some t) : tieN ts k = t := by
  unfold tieN
  rw [List.getD_eq_getElem?_getD, h]
  rfl
open Classical in
noncomputable def stemB (ts : List Tie) (k : Nat) : Bool := decide (¬ Rch (ts.take k) (tieN ts k).one (tieN ts k).other)
noncomputable def stemsTo (ts : List Tie) (k : Nat) : List Int := (rng k).filter fun i => stemB ts i.toNat
theorem stemsTo_succ (ts : List Tie) (k : Nat) : stemsTo ts (k + 1) = stemsTo ts k ++ (if stemB ts k = true then [(k : Int)] else []) := by
  unfold stemsTo
  rw [rng_succ, List.filter_append, List.filter_cons, Int.toNat_natCast]
  rfl
theorem stemsTo_len (ts : List Tie) (k : Nat) : (stemsTo ts k).length ≤ k := by
  unfold stemsTo
  have := List.length_filter_le (fun i => stemB ts i.toNat) (rng k)
  rw [rng_length] at this
  exact this
open Classical in
theorem stem_iff {ts : List Tie} {k : Nat} {t : Tie} (h : ts[k]? = some t) : stemB ts k = true ↔ ¬ Rch (ts.take k) t.one t.other := by
  unfold stemB
  rw [tieN_of h]
  exact decide_eq_true_iff
theorem take_snoc {α : Type} {ts : List α} {k : Nat} {t : α} (h : ts[k]? = some t) : ts.take (k + 1) = ts.take k ++ [t] := by
  rw [List.take_add_one, h]
  rfl
/-- labels: alike just where ties lead -/
def Lab (ts : List Tie) (n : Nat) (g : Int → Int) : Prop := ∀ i j : Int, 0 ≤ i → i < n → 0 ≤ j → j < n → (g i = g j ↔ Rch ts i j)
def mrg (g : Int → Int) (old new : Int) : Int → Int := fun x => if g x = old then new else g x
theorem lab_nil (n : Nat) : Lab [] n (fun i => i) := fun i j _ _ _ _ => ⟨fun h => by rw [show i = j from h]; exact .refl, fun h => rch_nil h⟩
theorem lab_same {ts : List Tie} {n : Nat} {g : Int → Int} {t : Tie} (h : Lab ts n g) (ok : TieOk n t) (e : g t.one = g t.other) : Lab (ts ++ [t]) n g := fun i j i0 i1 j0 j1 => by
  obtain ⟨o1, o2, o3, o4, _⟩ := ok
  have r : Rch ts t.one t.other := (h _ _ o1 o2 o3 o4).mp e
  rw [rch_snoc (.inl ⟨rfl, rfl⟩), h i j i0 i1 j0 j1]
  constructor
  · exact .inl
  · rintro (h1 | ⟨h1, h2⟩ | ⟨h1, h2⟩)
    · exact h1
    · exact h1.trans (r.trans h2)
    · exact h1.trans (r.symm.trans h2)
theorem lab_step {ts : List Tie} {n : Nat} {g : Int → Int} {t : Tie} {p q : Int} (h : Lab ts n g) (ok : TieOk n t) (e : (p = t.one ∧ q = t.other) ∨ (p = t.other ∧ q = t.one)) : Lab (ts ++ [t]) n (mrg g (g p) (g q)) := fun i j i0 i1 j0 j1 => by
  have pr : (0 ≤ p ∧ p < n) ∧ (0 ≤ q ∧ q < n) := by
    obtain ⟨o1, o2, o3, o4, _⟩ := ok
    rcases e with ⟨rfl, rfl⟩ | ⟨rfl, rfl⟩
    · exact ⟨⟨o1, o2⟩, o3, o4⟩
    · exact ⟨⟨o3, o4⟩, o1, o2⟩
  obtain ⟨⟨p0, p1⟩, q0, q1⟩ := pr
  rw [rch_snoc e]
  unfold mrg
  have ip := h i p i0 i1 p0 p1
  have jp := h j p j0 j1 p0 p1
  have iq := h i q i0 i1 q0 q1
  have jq := h j q j0 j1 q0 q1
  have ij := h i j i0 i1 j0 j1
  by_cases hi : g i = g p <;> by_cases hj : g j = g p
  · rw [if_pos hi, if_pos hj]
    exact ⟨fun _ => .inl (ij.mp (hi.trans hj.symm)), fun _ => rfl⟩
  · rw [if_pos hi, if_neg hj]
    constructor
    · intro z
      exact .inr (.inl ⟨ip.mp hi, (jq.mp z.symm).symm⟩)
    · rintro (z | ⟨_, z⟩ | ⟨_, z⟩)
      · exact absurd ((ij.mpr z).symm.trans hi) hj
      · exact (jq.mpr z.symm).symm
      · exact absurd (jp.mpr z.symm) hj
  · rw [if_neg hi, if_pos hj]
    constructor
    · intro z
      exact .inr (.inr ⟨iq.mp z, (jp.mp hj).symm⟩)
    · rintro (z | ⟨z, _⟩ | ⟨z, _⟩)
      · exact absurd ((ij.mpr z).trans hj) hi
      · exact absurd (ip.mpr z) hi
      · exact iq.mpr z
  · rw [if_neg hi, if_neg hj]
    constructor
    · intro z
      exact .inl (ij.mp z)
    · rintro (z | ⟨z, _⟩ | ⟨_, z⟩)
      · exact ij.mpr z
      · exact absurd (ip.mpr z) hi
      · exact absurd (jp.mpr z.symm) hj
/-- heads: labels that are places of their own; how many -/
structure Heads (ts : List Tie) (n i : Nat) (g : Int → Int) : Prop where
  lab : Lab (ts.take i) n g
  rng : ∀ x : Int, 0 ≤ x → x < n → 0 ≤ g x ∧ g x < n
  idem : ∀ x : Int, 0 ≤ x → x < n → g (g x) = g x
  cnt : ((FF.rng n).filter fun x => decide (g x = x)).length + (stemsTo ts i).length = n
theorem heads_nil (ts : List Tie) (n : Nat) : Heads ts n 0 (fun i => i) := by
  refine ⟨by rw [List.take_zero]; exact lab_nil n, fun x h0 h1 => ⟨h0, h1⟩, fun x _ _ => rfl, ?_⟩
  have e : ((FF.rng n).filter fun x => decide (x = x)) = FF.rng n := by
    rw [List.filter_eq_self]
    intro x _
    exact decide_eq_true rfl
  show ((FF.rng n).filter fun x => decide (x = x)).length + 0 = n
  rw [e, rng_length, Nat.add_zero]
theorem filter_drop {p q : Int → Bool} {h : Int} : ∀ {l : List Int}, l.Nodup → h ∈ l → p h = true → (∀ x ∈ l, q x = (p x && decide (x ≠ h))) → (l.filter q).length + 1 = (l.filter p).length
  | x :: l, nd, hm, hp, hq => by
    rw [List.nodup_cons] at nd
    have hx := hq x (by simp)
    rw [List.filter_cons, List.filter_cons, hx]
    by_cases e : x = h
    · subst e
      have same : l.filter q = l.filter p := List.filter_congr fun y hy => by
        rw [hq y (List.mem_cons_of_mem _ hy), decide_eq_true (show y ≠ x from fun z => nd.1 (by rw [← z]; exact hy)), Bool.and_true]
      rw [same, hp]
      simp
    · have hm' : h ∈ l := (List.mem_cons.mp hm).elim (fun z => absurd z.symm e) id
      have ih := filter_drop (l := l) nd.2 hm' hp fun y hy => hq y (List.mem_cons_of_mem _ hy)
      rw [decide_eq_true (show x ≠ h from e), Bool.and_true]
      cases p x
      · simpa using ih
      · simp
        omega
theorem heads_same {ts : List Tie} {n i : Nat} {g : Int → Int} {t : Tie} (h : Heads ts n i g) (et : ts[i]? = some t) (ok : TieOk n t) (e : g t.one = g t.other) : Heads ts n (i + 1) g := by
  refine ⟨by rw [take_snoc et]; exact lab_same h.lab ok e, h.rng, h.idem, ?_⟩
  have no : ¬ stemB ts i = true := fun z => (stem_iff et).mp z ((h.lab _ _ ok.1 ok.2.1 ok.2.2.1 ok.2.2.2.1).mp e)
  rw [stemsTo_succ, if_neg no, List.append_nil]
  exact h.cnt
theorem heads_step {ts : List Tie} {n i : Nat} {g : Int → Int} {t : Tie} {p q : Int} (h : Heads ts n i g) (et : ts[i]? = some t) (ok : TieOk n t) (e : (p = t.one ∧ q = t.other) ∨ (p = t.other ∧ q = t.one)) (ne : g p ≠ g q) : Heads ts n (i + 1) (mrg g (g p) (g q)) := by
  have pr : (0 ≤ p ∧ p < n) ∧ (0 ≤ q ∧ q < n) := by
    obtain ⟨o1, o2, o3, o4, _⟩ := ok
    rcases e with ⟨rfl, rfl⟩ | ⟨rfl, rfl⟩
    · exact ⟨⟨o1, o2⟩, o3, o4⟩
    · exact ⟨⟨o3, o4⟩, o1, o2⟩
  obtain ⟨⟨p0, p1⟩, q0, q1⟩ := pr
  have gp := h.rng p p0 p1
  have gq := h.rng q q0 q1
  have ip := h.idem p p0 p1
  have iq := h.idem q q0 q1
  refine ⟨by rw [take_snoc et]; exact lab_step h.lab ok e, fun x x0 x1 => ?_, fun x x0 x1 => ?_, ?_⟩
  · unfold mrg
    split
    · exact gq
    · exact h.rng x x0 x1
  · have ix := h.idem x x0 x1
    by_cases hx : g x = g p
    · have e1 : mrg g (g p) (g q) x = g q := if_pos hx
      rw [e1]
      show (if g (g q) = g p then g q else g (g q)) = g q
      rw [iq, if_neg (Ne.symm ne)]
    · have e1 : mrg g (g p) (g q) x = g x := if_neg hx
      rw [e1]
      show (if g (g x) = g p then g q else g (g x)) = g x
      rw [ix, if_neg hx]
  · have yes : stemB ts i = true := (stem_iff et).mpr fun z => by
      have hl := (h.lab _ _ ok.1 ok.2.1 ok.2.2.1 ok.2.2.2.1).mpr z
      rcases e with ⟨rfl, rfl⟩ | ⟨rfl, rfl⟩
      · exact ne hl
      · exact ne hl.symm
    have drop := filter_drop (p := fun x => decide (g x = x)) (q := fun x => decide (mrg g (g p) (g q) x = x)) (h := g p) (l := FF.rng n) ((rng_rising n).imp fun h => by omega) (mem_rng.mpr gp) (decide_eq_true ip) (fun x hx => ?_)
    · rw [stemsTo_succ, if_pos yes, List.length_append]
      have := h.cnt
      simp only [List.length_cons, List.length_nil]
      omega
    · have xr := mem_rng.mp hx
      rw [Bool.eq_iff_iff, Bool.and_eq_true, decide_eq_true_iff, decide_eq_true_iff, decide_eq_true_iff]
      show (if g x = g p then g q else g x) = x ↔ _
      by_cases hx : g x = g p
      · rw [if_pos hx]
        constructor
        · intro z
          exact absurd (by rw [← z, iq] at hx; exact hx.symm) ne
        · rintro ⟨z1, z2⟩
          exact absurd (z1.symm.trans hx) z2
      · rw [if_neg hx]
        exact ⟨fun z => ⟨z, fun y => hx (by rw [y]; exact ip)⟩, fun z => z.1⟩
/-- stems are told by the places of the ties alone -/
theorem rch_frames : ∀ {ts us : List Tie}, ts.length = us.length → (∀ (i : Nat) t u, ts[i]? = some t → us[i]? = some u → (u.one = t.one ∧ u.other = t.other) ∨ (u.one = t.other ∧ u.other = t.one)) → ∀ {a b : Int}, Rch ts a b → Rch us a b := by
  intro ts us hl h a b r
  refine r.ind (fun x => Rch us a x) .refl fun x y k hx ad => ?_
  obtain ⟨t, ht, _, e⟩ := ad
  obtain ⟨i, hi, rfl⟩ := List.getElem_of_mem ht
  have hu : us[i]? = some us[i] := List.getElem?_eq_getElem (by omega)
  have w := h i _ _ (List.getElem?_eq_getElem hi) hu
  refine hx.trans (Rch.adj (k := us[i].foe) ⟨us[i], List.getElem_mem _, rfl, ?_⟩)
  rcases w with ⟨w1, w2⟩ | ⟨w1, w2⟩ <;> rcases e with ⟨e1, e2⟩ | ⟨e1, e2⟩
  · exact .inl ⟨by omega, by omega⟩
  · exact .inr ⟨by omega, by omega⟩
  · exact .inr ⟨by omega, by omega⟩
  · exact .inl ⟨by omega, by omega⟩
def Framed (ts us : List Tie) : Prop := ts.length = us.length ∧ ∀ (i : Nat) t u, ts[i]? = some t → us[i]? = some u → (u.one = t.one ∧ u.other = t.other) ∨ (u.one = t.other ∧ u.other = t.one)
theorem Framed.symm {ts us : List Tie} (h : Framed ts us) : Framed us ts := ⟨h.1.symm, fun i u t e1 e2 => by
  rcases h.2 i t u e2 e1 with ⟨w1, w2⟩ | ⟨w1, w2⟩
  · exact .inl ⟨w1.symm, w2.symm⟩
  · exact .inr ⟨w2.symm, w1.symm⟩⟩
theorem Framed.take {ts us : List Tie} (h : Framed ts us) (k : Nat) : Framed (ts.take k) (us.take k) := by
  refine ⟨by rw [List.length_take, List.length_take, h.1], fun i t u e1 e2 => ?_⟩
  by_cases hk : i < k
  · rw [List.getElem?_take_of_lt hk] at e1 e2
    exact h.2 i t u e1 e2
  · rw [List.getElem?_take] at e1
    rw [if_neg hk] at e1
    cases e1
theorem Framed.map {ts : List Tie} {f : Tie → Tie} (h : ∀ t ∈ ts, ((f t).one = t.one ∧ (f t).other = t.other) ∨ ((f t).one = t.other ∧ (f t).other = t.one)) : Framed ts (ts.map f) := by
  refine ⟨by rw [List.length_map], fun i t u e1 e2 => ?_⟩
  rw [List.getElem?_map, e1] at e2
  cases e2
  exact h t (List.mem_of_getElem? e1)
theorem stems_framed {ts us : List Tie} (h : Framed ts us) : stemsTo us us.length = stemsTo ts ts.length := by
  unfold stemsTo
  rw [← h.1]
  refine List.filter_congr fun i hi => ?_
  have ir := mem_rng.mp hi
  have e1 : ts[i.toNat]? = some ts[i.toNat] := List.getElem?_eq_getElem (by omega)
  have l := h.1
  have e2 : us[i.toNat]? = some us[i.toNat] := List.getElem?_eq_getElem (by omega)
  have ht := h.take i.toNat
  rw [Bool.eq_iff_iff, stem_iff e1, stem_iff e2]
  have both : ∀ a b : Int, Rch (ts.take i.toNat) a b ↔ Rch (us.take i.toNat) a b := fun a b => ⟨fun r => rch_frames ht.1 ht.2 r, fun r => rch_frames ht.symm.1 ht.symm.2 r⟩
  rcases h.2 _ _ _ e1 e2 with ⟨w1, w2⟩ | ⟨w1, w2⟩
  · rw [w1, w2, both]
  · rw [w1, w2, both]
    exact ⟨fun z y => z y.symm, fun z y => z y.symm⟩
theorem stemsTo_rising (ts : List Tie) (k : Nat) : (stemsTo ts k).Pairwise (· < ·) := (rng_rising k).filter _
theorem stemsTo_mem {ts : List Tie} {k : Nat} {i : Int} : i ∈ stemsTo ts k ↔ (0 ≤ i ∧ i < k) ∧ stemB ts i.toNat = true := by
  unfold stemsTo
  rw [List.mem_filter, mem_rng]
theorem stems_own (ts : List Tie) : stemsTo ((stemsTo ts ts.length).map fun i => tieN ts i.toNat) (stemsTo ts ts.length).length = rng (stemsTo ts ts.length).length := by
  generalize hS : stemsTo ts ts.length = S
  unfold stemsTo
  rw [List.filter_eq_self]
  intro j hj
  have jr := mem_rng.mp hj
  have hjl : j.toNat < S.length := by omega
  have ej : (S.map fun i => tieN ts i.toNat)[j.toNat]? = some (tieN ts S[j.toNat].toNat) := by
    rw [List.getElem?_map, List.getElem?_eq_getElem hjl]
    rfl
  have hm : S[j.toNat] ∈ stemsTo ts ts.length := by rw [hS]; exact List.getElem_mem _
  obtain ⟨⟨m0, m1⟩, mb⟩ := stemsTo_mem.mp hm
  have et : ts[S[j.toNat].toNat]? = some (tieN ts S[j.toNat].toNat) := by
    have h : S[j.toNat].toNat < ts.length := by omega
    rw [List.getElem?_eq_getElem h, tieN_of (List.getElem?_eq_getElem h)]
  rw [stem_iff ej]
  rw [stem_iff et] at mb
  refine fun r => mb (r.mono fun t ht => ?_)
  rw [← List.map_take, List.mem_map] at ht
  obtain ⟨x, hx, rfl⟩ := ht
  obtain ⟨a, ha, rfl⟩ := List.getElem_of_mem hx
  rw [List.length_take] at ha
  rw [List.getElem_take]
  have hx' : S[a] ∈ stemsTo ts ts.length := by rw [hS]; exact List.getElem_mem _
  obtain ⟨⟨x0, x1⟩, _⟩ := stemsTo_mem.mp hx'
  have rise : S.Pairwise (· < ·) := by rw [← hS]; exact stemsTo_rising _ _
  have lt : S[a] < S[j.toNat] := List.pairwise_iff_getElem.mp rise a j.toNat (by omega) hjl (by omega)
  have h : S[a].toNat < ts.length := by omega
  rw [tieN_of (List.getElem?_eq_getElem h)]
  rw [List.mem_iff_getElem]
  exact ⟨S[a].toNat, by rw [List.length_take]; omega, by rw [List.getElem_take]⟩
/-! ### enumerate of a tuple -/
set_option maxHeartbeats 1000000 in
theorem meets_enumOne {v : Value} {o : Obj} {S : Heap → Prop} (B : Begins v o S) : Meets (Builtin.«enumerate.__new__» ⟨[.type "enumerate", v], []⟩) (fun _ R s => S s.heap ∧
      R (.ok (.ret (.ref (s.heap.push o).objs.size))) { s with heap := (s.heap.push o).push { cls := .type "enumerate", data := .fields #[.none, .bool false, .ref s.heap.objs.size, rawInt 0, .none, .none] } }) :=
  .of_wp fun prog w A R s h => by
    obtain ⟨hp, g, d, tk, os⟩ := s
    obtain ⟨h1, h⟩ := h
    have sub0 := sub_enumerate
    have begun : ∀ {A' : PySem.Around} {E : Value → Shared → Prop} {Q : Value → Shared → Prop}, Q (.ref hp.objs.size) ⟨hp.push o, g, d, tk, os⟩ → wpAny (model prog w) A' (pyIter v) Q E ⟨hp, g, d, tk, os⟩ := fun q => B.iter prog w _ _ ⟨hp, g, d, tk, os⟩ _ h1 q
    wp_walk using begun
    refine wpAny_stack_any fun st => wpAny_pure ?_
    split
    · rename_i c _ _ _ _ _
      cases (c == Value.type "enumerate")
      all_goals
        wp_walk using begun
        exact ⟨_, rfl, h⟩
    · wp_walk using begun
      exact ⟨_, rfl, h⟩
theorem call_enumT {P : Program} {w : World} {A : PySem.Around} {E : Value → Shared → Prop} {s : Shared} {t : Addr} {items : Array Value} {Q : Value → Shared → Prop} (ht : s.heap.IsTuple t items)
    (h : ∀ h', IsEnum h' (s.heap.objs.size + 1) s.heap.objs.size 0 .none → h'.IsTupleIter s.heap.objs.size t 0 → (∀ b o, s.heap.get? b = some o → h'.get? b = some o) → Q (.ref (s.heap.objs.size + 1)) { s with heap := h' }) : wpAny (model P w) A (call (.type "enumerate") [.ref t]) Q E s := by
  refine callType_new PySem.F.called_enumerate (by decide) (PySem.F.typeCall_enumerate_1 _) (PySem.F.newCall_enumerate_1 _) (fun ob => PySem.F.args_object_init_2 ob _) PySem.F.entry_enumerate_new (meets_enumOne (begins_tuple t items)) ⟨ht, ?_⟩
  have size1 := Heap.size_push s.heap { cls := .type "tuple_iterator", data := .fields #[.ref t, .int 0 0] }
  have en := Heap.get?_push_size (s.heap.push { cls := .type "tuple_iterator", data := .fields #[.ref t, .int 0 0] }) (o := { cls := .type "enumerate", data := .fields #[.none, .bool false, .ref s.heap.objs.size, rawInt 0, .none, .none] }) rfl
  rw [size1] at en
  show _ ∧ _
  rw [size1]
  exact ⟨⟨_, en, rfl⟩, h _ en ⟨_, Heap.get?_push_of_some _ (Heap.get?_push_size _ rfl), rfl, rfl⟩ fun b o e => Heap.get?_push_of_some _ (Heap.get?_push_of_some _ e)⟩
/-- the turns: a new pair each, of the number and the part -/
def ItN (K : PySem.W.Frag) (a : Addr) : It where
  go := fun i H => ∃ (xs : List V) (x : V), SqT K H a xs ∧ xs[i]? = some x
  yld := fun i H v H' => ∃ T x, v = .ref T ∧ H T = none ∧ H' = upd H T (.tup [.int (i : Nat), x]) ∧ ∀ xs, SqT K H a xs → xs[i]? = some x
  stop := fun i H => ∃ xs : List V, SqT K H a xs ∧ xs.length ≤ i
theorem turn_enumT {P : Program} {w : World} {K : PySem.W.Frag} {elts : List Expr} {kk : Nat} {tpos : Pos} (a e it : Addr) (n1 : e ≠ it) (n2 : a ≠ it) (n3 : e ≠ a) :
    Turn P w K (.Tuple elts kk tpos) (ItN K a) [e, it] e (fun i h => (∃ old, IsEnum h e it ((i : Nat) : Int) old) ∧ h.IsTupleIter it a i) where
  mem := List.mem_cons_self
  obj := by
    rintro i h ⟨⟨old, he⟩, o, ho, hc, hd⟩ b hb
    rcases List.mem_cons.mp hb with rfl | hb
    · exact ⟨_, he, fun v q => nomatch q⟩
    · rw [List.mem_singleton.mp hb]
      exact ⟨o, ho, fun v q => by rw [hd] at q; cases q⟩
  keep := by
    rintro i h h' ⟨⟨old, he⟩, hit⟩ kp
    exact ⟨⟨old, kp e (by simp) _ he⟩, hit.at fun o q => kp it (by simp) o q⟩
  item := by
    intro X hP hw hK hc i pins s σ H E I hf st hg
    subst hP hw hK
    obtain ⟨⟨old, he⟩, hit⟩ := st
    obtain ⟨xs, x, hq, hx⟩ := hg
    obtain ⟨its, rv, tup, _⟩ := I.tuple hq
    obtain ⟨u, hu, ru⟩ := rv.get hx
    have le := Heap.lt_size he
    have li : it < s.heap.objs.size := let ⟨_, q, _⟩ := hit; Heap.lt_size q
    have lt : i < its.toArray.size := by simpa using (List.getElem?_eq_some_iff.mp hu).1
    refine wpAny_pyNext_enum_itemD (Draws.tuple (A := X.A.in1) (I.ok.hd hc) it a n2 its.toArray) he ⟨hit, tup⟩ lt n1 (by simp [n1, n3]) fun x' h' tk ex out st' new _ kp => ?_
    obtain rfl : u = x' := Option.some.inj (((by simpa using hu) : its.toArray[i]? = some u).symm.trans ex)
    refine ⟨_, rfl, wpAny_letOwnedTupleGo_enum (s := { s with heap := h', toks := tk + 1 }) out fun h2 he2 sb => ?_⟩
    have new2 : h2.get? s.heap.objs.size = some { cls := .type "tuple", data := .seq #[.int i tk, u] } := (sb.2 _ (Nat.ne_of_gt le)).trans new
    have objT : ObjOk X.prog X.w (upd H s.heap.objs.size (.tup [.int (i : Nat), x])) h2 s.heap.objs.size (.tup [.int (i : Nat), x]) := ⟨by show 2 ≤ sizeLine; decide, [.int i tk, u], .cons ⟨_, rfl⟩ (.cons ru .nil), ⟨_, new2, rfl, _, rfl⟩⟩
    have J : Inv X pins σ (upd H s.heap.objs.size (.tup [.int (i : Nat), x])) { s with heap := h2, toks := tk + 1 } := I.turnedNew (ch := [e, it]) (fun b ob hb q => by
      simp only [List.mem_cons, List.not_mem_nil, or_false, not_or] at hb
      exact (sb.2 b hb.1).trans (kp b ob hb.1 hb.2 q)) hf (Nat.le_refl _) objT
    refine ⟨.ref s.heap.objs.size, _, J, rfl, ⟨_, x, rfl, I.hok.fresh (Nat.le_refl _), rfl, fun ys hy => by rw [I.tuple_inj hy hq]; exact hx⟩, ⟨⟨u, ?_⟩, st'.1.at fun o q => (sb.2 it (Ne.symm n1)).trans q⟩, fun b hb => ?_⟩
    · rw [show ((i + 1 : Nat) : Int) = (i : Int) + 1 from by omega]
      exact he2
    · have lb : b < s.heap.objs.size := by
        rcases List.mem_cons.mp hb with rfl | hb
        · exact le
        · rw [List.mem_singleton.mp hb]
          exact li
      rw [upd_ne (Nat.ne_of_lt lb)]
      exact (hf b hb).1
  done := by
    intro X hP hw hK hc i pins s σ H E I hf st hg
    subst hP hw hK
    obtain ⟨⟨old, he⟩, hit⟩ := st
    obtain ⟨xs, hq, hx⟩ := hg
    obtain ⟨its, rv, tup, _⟩ := I.tuple hq
    have hl := rv.length
    obtain ⟨f0, f1, f2, f3, f4, f5⟩ := hf it (by simp)
    have D : Draws X.prog X.w X.A.in1 it [it, a] i (fun _ _ => False) (fun j h => j = i ∧ h.IsTupleIter it a i ∧ h.IsTuple a its.toArray) := {
      live := fun j h z => let ⟨_, ⟨o, q, _⟩, _⟩ := z; ⟨o, q⟩
      frame := fun j h h' z kp => ⟨z.1, z.2.1.at fun o q => kp it (by simp) o q, z.2.2.at fun o q => kp a (by simp) o q⟩
      item := fun j s' Q E' hj z => absurd z.1 (Nat.ne_of_lt hj)
      done := fun s' Q E' z fin => wpAny_nextOf_tuple_end (I.ok.hd hc) z.2.1 z.2.2 (by simp; omega) fin }
    exact wpAny_pyNext_enum_endD D he ⟨rfl, hit, tup⟩ fun h' eb => ⟨rfl, I.turned (t' := s.toks) (fun b o hb q => eb b o hb q) f0 f1 f3 f4 f5⟩
  self := fun A i s Q E st h => let ⟨⟨_, he⟩, _⟩ := st; wpAny_pyIter_enum he h
def iEnT (K : PySem.W.Frag) (ta : TA) : TI := fun σ H R => ta σ H fun vs H1 => ∃ a xs, vs = [.ref a] ∧ SqT K H1 a xs ∧ R (ItN K a) H1
theorem pi_enumT {X : Cx} {e : Expr} {ta : TA} {p pos tpos : Pos} {elts : List Expr} {kk : Nat} (hg : Gl X "enumerate") (hm : X.mg "enumerate" = none) (ha : PA X [e] ta) (hs : starEach [e] X.env = [(false, eval e X.env)] := by rfl) :
    PI X (.Tuple elts kk tpos) (.Call (.Name "enumerate" p) [e] [] pos) (iEnT X.K ta) := by
  refine ⟨fun pins s σ H R I want => Call_ (ld_blt I hg hm boot_enumerate (PyProof.Rows.callWith_type1 (thn (ha.run pos pins s σ H _ I want) fun us s1 got => ?_) hs rfl))⟩
  obtain ⟨vs, H1, J, rel, a, xs, ex, hq, q⟩ := got
  subst ex
  obtain ⟨u, eu, r1⟩ := vals1 rel
  subst eu
  obtain rfl : u = Value.ref a := r1
  obtain ⟨its, rv, tup, _⟩ := J.tuple hq
  have la : a < s1.heap.objs.size := let ⟨_, q, _⟩ := tup; Heap.lt_size q
  refine call_enumT (items := its.toArray) tup fun h' he hit kp => wpAny_pyIter_enum he ?_
  have J2 : Inv X pins σ H1 { s1 with heap := h' } := J.kept (t' := s1.toks) kp
  refine ⟨s1.heap.objs.size + 1, [s1.heap.objs.size + 1, s1.heap.objs.size], _, _, H1, rfl, J2, turn_enumT a (s1.heap.objs.size + 1) s1.heap.objs.size (Nat.succ_ne_self _) (Nat.ne_of_lt la) (Nat.ne_of_gt (Nat.lt_succ_of_lt la)), ⟨⟨.none, he⟩, hit⟩, fun b hb => ?_, q⟩
  have lb : s1.heap.objs.size ≤ b := by
    rcases List.mem_cons.mp hb with rfl | hb
    · exact Nat.le_succ _
    · rw [List.mem_singleton.mp hb]
      exact Nat.le_refl _
  exact J.fpOk lb (J.hok.fresh lb)
theorem walk_enumT {K : PySem.W.Frag} {a : Addr} {xs : List V} : Walk (ItN K a) xs.length (fun H => SqT K H a xs) (YPair (fun i => some (.int (i : Nat))) (fun i => xs[i]?)) :=
  ⟨fun i H hi h => ⟨xs, xs[i], h, List.getElem?_eq_getElem hi⟩, fun H h => ⟨xs, h, Nat.le_refl _⟩, fun i H x H' hi h y => by
    obtain ⟨T, z, e1, e2, e3, e4⟩ := y
    exact ⟨T, _, z, e1, e2, e3, rfl, e4 xs h⟩⟩
/-! ### neighbours, and what a walk has come to (mathematics) -/
abbrev Nb := Int × Bool
def nb1 (t : Tie) (i : Int) : List Nb := (if i = t.one then [(t.other, t.foe)] else []) ++ (if i = t.other then [(t.one, t.foe)] else [])
def nbs (ts : List Tie) (i : Int) : List Nb := ts.flatMap fun t => nb1 t i
theorem nbs_snoc (ts : List Tie) (t : Tie) (i : Int) : nbs (ts ++ [t]) i = nbs ts i ++ nb1 t i := by
  unfold nbs
  rw [List.flatMap_append]
  simp
theorem nb1_len (t : Tie) (i : Int) : (nb1 t i).length ≤ 2 := by
  unfold nb1
  rw [List.length_append]
  split <;> split <;> simp
theorem nbs_len (ts : List Tie) (i : Int) : (nbs ts i).length ≤ 2 * ts.length := by
  induction ts with
  | nil => simp [nbs]
  | cons t ts ih =>
    have h := nb1_len t i
    unfold nbs at ih ⊢
    rw [List.flatMap_cons, List.length_append, List.length_cons]
    omega
theorem mem_nbs {ts : List Tie} {i : Int} {p : Nb} : p ∈ nbs ts i ↔ Adj ts i p.1 p.2 := by
  unfold nbs Adj nb1
  rw [List.mem_flatMap]
  constructor
  · rintro ⟨t, ht, h⟩
    refine ⟨t, ht, ?_⟩
    rcases List.mem_append.mp h with h | h
    · split at h
      · rename_i e
        rw [List.mem_singleton] at h
        subst h
        exact ⟨rfl, .inl ⟨e.symm, rfl⟩⟩
      · simp at h
    · split at h
      · rename_i e
        rw [List.mem_singleton] at h
        subst h
        exact ⟨rfl, .inr ⟨rfl, e.symm⟩⟩
      · simp at h
  · rintro ⟨t, ht, e, h⟩
    refine ⟨t, ht, List.mem_append.mpr ?_⟩
    obtain ⟨p1, p2⟩ := p
    simp only at e h
    rcases h with ⟨h1, h2⟩ | ⟨h1, h2⟩
    · left
      rw [if_pos h1.symm, List.mem_singleton, ← e, ← h2]
    · right
      rw [if_pos h2.symm, List.mem_singleton, ← e, ← h1]
theorem pigeon : ∀ (n : Nat) (xs : List Int), xs.Nodup → (∀ x ∈ xs, 0 ≤ x ∧ x < n) → xs.length ≤ n
  | 0, xs, _, h => by
    cases xs with
    | nil => simp
    | cons x r =>
      have := h x (by simp)
      omega
  | n + 1, xs, nd, h => by
    have q := pigeon n (xs.erase (n : Int)) (nd.erase _) fun x hx => by
      have h1 := h x (List.mem_of_mem_erase hx)
      have h2 : x ≠ n := (List.Nodup.mem_erase_iff nd).mp hx |>.1
      omega
    have l := List.length_erase (a := (n : Int)) (l := xs)
    split at l
    · omega
    · omega
structure SF (ts : List Tie) (s : Int) (ks : List Nb) (wl ex : List Int) : Prop where
  nd : (ks.map (·.1)).Nodup
  rp : ∀ p ∈ ks, RP ts s p.1 p.2
  st : s ∈ ks.map (·.1)
  sub : ∀ x ∈ wl, x ∈ ks.map (·.1)
  le : wl.length ≤ ks.length
  cl : ∀ x ∈ ks.map (·.1), x ∉ wl → x ∉ ex → ∀ y k, Adj ts x y k → y ∈ ks.map (·.1)
theorem SF.keys {ts : List Tie} {s : Int} {ks : List Nb} {wl ex : List Int} (h : SF ts s ks wl ex) {x : Int} (hx : x ∈ ks.map (·.1)) : ∃ b, (x, b) ∈ ks ∧ RP ts s x b := by
  obtain ⟨p, hp, rfl⟩ := List.mem_map.mp hx
  exact ⟨p.2, hp, h.rp p hp⟩
theorem SF.few {ts : List Tie} {n : Nat} {s : Int} {ks : List Nb} {wl ex : List Int} (h : SF ts s ks wl ex) (ok : ∀ t ∈ ts, TieOk n t) (hs : 0 ≤ s ∧ s < n) : ks.length ≤ n := by
  have q := pigeon n (ks.map (·.1)) h.nd fun x hx => by
    obtain ⟨b, _, hb⟩ := h.keys hx
    exact Rch.rng ok hs ⟨b, hb⟩
  rw [List.length_map] at q
  exact q
theorem SF.all {ts : List Tie} {s : Int} {ks : List Nb} (h : SF ts s ks [] []) (z : Int) : z ∈ ks.map (·.1) ↔ Rch ts s z := by
  constructor
  · intro hz
    obtain ⟨b, _, hb⟩ := h.keys hz
    exact ⟨b, hb⟩
  · intro hz
    exact hz.ind (fun x => x ∈ ks.map (·.1)) h.st fun x y k hx ad => h.cl x hx (by simp) (by simp) y k ad
theorem SF.pop {ts : List Tie} {s p : Int} {ks : List Nb} {wl : List Int} (h : SF ts s ks (wl ++ [p]) []) : SF ts s ks wl [p] :=
  ⟨h.nd, h.rp, h.st, fun x hx => h.sub x (List.mem_append_left _ hx), by have := h.le; rw [List.length_append] at this; omega, fun x hx h1 h2 => h.cl x hx (fun z => by
    rcases List.mem_append.mp z with z | z
    · exact h1 z
    · exact h2 z) (by simp)⟩
theorem SF.push {ts : List Tie} {s p y : Int} {b f : Bool} {ks : List Nb} {wl : List Int} (h : SF ts s ks wl [p]) (hp : RP ts s p b) (ad : Adj ts p y f) (hy : y ∉ ks.map (·.1)) : SF ts s (ks ++ [(y, b ^^ f)]) (wl ++ [y]) [p] := by
  have em : (ks ++ [(y, b ^^ f)]).map (·.1) = ks.map (·.1) ++ [y] := by rw [List.map_append]; rfl
  refine ⟨?_, fun q hq => ?_, ?_, fun x hx => ?_, ?_, fun x hx h1 h2 z k hz => ?_⟩
  · rw [em, List.nodup_append]
    refine ⟨h.nd, by simp, fun x hx z hz e => ?_⟩
    rw [List.mem_singleton] at hz
    subst hz
    subst e
    exact hy hx
  · rcases List.mem_append.mp hq with q1 | q1
    · exact h.rp q q1
    · rw [List.mem_singleton] at q1
      subst q1
      exact hp.step ad
  · rw [em]
    exact List.mem_append_left _ h.st
  · rw [em]
    rcases List.mem_append.mp hx with q1 | q1
    · exact List.mem_append_left _ (h.sub x q1)
    · exact List.mem_append_right _ q1
  · rw [List.length_append, List.length_append]
    have := h.le
    simp
    omega
  · rw [em] at hx ⊢
    rcases List.mem_append.mp hx with q1 | q1
    · exact List.mem_append_left _ (h.cl x q1 (fun q2 => h1 (List.mem_append_left _ q2)) h2 z k hz)
    · exact absurd (List.mem_append_right _ q1) h1
theorem SF.done {ts : List Tie} {s p : Int} {ks : List Nb} {wl : List Int} (h : SF ts s ks wl [p]) (hp : ∀ q ∈ nbs ts p, q.1 ∈ ks.map (·.1)) : SF ts s ks wl [] :=
  ⟨h.nd, h.rp, h.st, h.sub, h.le, fun x hx h1 _ y k ad => by
    by_cases e : x = p
    · subst e
      exact hp (y, k) (mem_nbs.mpr ad)
    · exact h.cl x hx h1 (fun z => e (List.mem_singleton.mp z)) y k ad⟩
theorem room1 {k : Nat} {A : PySem.Around} (r : Room k A) : A.units + 1 < cLine := by have := r.un; omega
/-! ### the law: the least place that each comes to -/
def lf (f : Int → Int) (n : Nat) : List V := (rng n).map fun i => V.int (f i)
theorem lf_len (f : Int → Int) (n : Nat) : (lf f n).length = n := by unfold lf; rw [List.length_map, rng_length]
theorem lf_get? (f : Int → Int) {n j : Nat} (h : j < n) : (lf f n)[j]? = some (.int (f j)) := by
  unfold lf rng
  rw [List.map_map, List.getElem?_map, List.getElem?_range h]
  rfl
theorem lf_at (f : Int → Int) {n : Nat} {i : Int} (h0 : 0 ≤ i) (h1 : i < n) : atI (lf f n) i = some (.int (f i)) := by
  have e : ((i.toNat : Nat) : Int) = i := by omega
  refine atI_of h0 ?_
  rw [lf_get? f (by omega), e]
theorem lf_set (f : Int → Int) {n : Nat} {i y : Int} (h0 : 0 ≤ i) (h1 : i < n) : (lf f n).set i.toNat (.int y) = lf (fun x => if x = i then y else f x) n := by
  refine List.ext_getElem? fun j => ?_
  rw [List.getElem?_set]
  by_cases hj : j < n
  · by_cases e : i.toNat = j
    · rw [if_pos e, if_pos (by rw [lf_len]; omega), lf_get? _ hj, if_pos (by omega)]
    · rw [if_neg e, lf_get? _ hj, lf_get? _ hj, if_neg (by omega)]
  · have e : i.toNat ≠ j := by omega
    rw [if_neg e, List.getElem?_eq_none (by rw [lf_len]; omega), List.getElem?_eq_none (by rw [lf_len]; omega)]
theorem ixN_of {n : Nat} {i : Int} (h0 : 0 ≤ i) (h1 : i < n) : ixN n i = some i.toNat := by
  unfold ixN
  rw [if_pos (by omega), if_pos (by omega)]
/-! ### stems -/
theorem lf_succ (f : Int → Int) (j : Nat) : lf f (j + 1) = lf f j ++ [V.int (f j)] := by
  unfold lf
  rw [rng_succ, List.map_append]
  rfl
theorem lf_id (n : Nat) : rgV 0 n = lf (fun i => i) n := by
  rw [rgV_rng, Int.toNat_natCast]
  rfl
theorem neInt (x y : Int) : (!decide (V.int x = V.int y)) = !decide (x = y) := by
  congr 1
  rw [decide_eq_decide]
  exact ⟨fun h => V.int.inj h, fun h => by rw [h]⟩
theorem eqInt (x y : Int) : decide (V.int x = V.int y) = decide (x = y) := by
  rw [decide_eq_decide]
  exact ⟨fun h => V.int.inj h, fun h => by rw [h]⟩
theorem lf_congr {f g : Int → Int} {n : Nat} (h : ∀ x : Int, 0 ≤ x → x < n → f x = g x) : lf f n = lf g n := by
  unfold lf
  refine List.map_congr_left fun x hx => ?_
  have := mem_rng.mp hx
  rw [h x this.1 this.2]
def prt (g : Int → Int) (old new : Int) (j : Nat) : Int → Int := fun x => if x < (j : Int) then mrg g old new x else g x
theorem prt_at (g : Int → Int) (old new : Int) (j : Nat) : prt g old new j j = g j := if_neg (by omega)
theorem prt_zero (g : Int → Int) (old new : Int) (k : Nat) : lf (prt g old new 0) k = lf g k := lf_congr fun x h0 _ => if_neg (by omega)
theorem prt_end (g : Int → Int) (old new : Int) (k : Nat) : lf (prt g old new k) k = lf (mrg g old new) k := lf_congr fun x _ h1 => if_pos h1
theorem prt_eq {g : Int → Int} {old new : Int} {k j : Nat} (hj : j < k) (e : g j = old) : (lf (prt g old new j) k).set j (.int new) = lf (prt g old new (j + 1)) k := by
  have e6 := lf_set (prt g old new j) (n := k) (i := j) (y := new) (by omega) (by omega)
  rw [Int.toNat_natCast] at e6
  rw [e6]
  refine lf_congr fun x _ _ => ?_
  show (if x = (j : Int) then new else if x < (j : Int) then mrg g old new x else g x) = if x < ((j + 1 : Nat) : Int) then mrg g old new x else g x
  by_cases ex : x = j
  · subst ex
    rw [if_pos rfl, if_pos (by omega)]
    exact (if_pos e).symm
  · rw [if_neg ex]
    by_cases hx2 : x < j
    · rw [if_pos hx2, if_pos (by omega)]
    · rw [if_neg hx2, if_neg (by omega)]
theorem prt_ne {g : Int → Int} {old new : Int} {k j : Nat} (e : ¬ g j = old) : lf (prt g old new (j + 1)) k = lf (prt g old new j) k := by
  refine lf_congr fun x _ _ => ?_
  show (if x < ((j + 1 : Nat) : Int) then mrg g old new x else g x) = if x < (j : Int) then mrg g old new x else g x
  by_cases ex : x = j
  · subst ex
    rw [if_pos (by omega), if_neg (by omega)]
    exact if_neg e
  · by_cases hx2 : x < j
    · rw [if_pos hx2, if_pos (by omega)]
    · rw [if_neg hx2, if_neg (by omega)]
def spStems : Sp := fun vs H Q _ => ∃ (v : V) (n : Int) (ts : List Tie), vs = [v] ∧ WebAt H v n ts ∧ WebOk n ts ∧ ∀ r H', Same H H' → H' r = some (.tup ((stemsTo ts ts.length).map V.int)) → Q (.ref r) H'
def spGroups : Sp := fun vs H Q _ => ∃ (n : Nat) (b : Addr) (us : List V) (ts : List Tie), vs = [.int n, .ref b] ∧ H b = some (.tup us) ∧ Paired (TieV H) us ts ∧ WebOk n ts ∧ ∀ r g H', Same H H' → H' r = some (.lst (lf g n)) → ((rng n).filter fun x => decide (g x = x)).length + (stemsTo ts ts.length).length = n → Q (.ref r) H'
section
variable {P : Program} {w : World} {K : PySem.W.Frag} {mg : Str → Option Value} {base : Heap}
theorem ok_stems {f : Addr} {fd : FuncData} (F : Fun K "stems" "stems" s_stems f fd) (M : Free mg) (me : mg "enumerate" = none) : FnOk P w K mg base CX0 1 f fd ["web"] spStems := by
  refine F.ok sc_stems (fun vs H Q E h => ?_) (fun cdv A outer s H vs Q E hr h => ?_)
  · obtain ⟨v, n, ts, rfl, _⟩ := h
    rfl
  · obtain ⟨v, n, ts, rfl, ⟨wa, wb, us, rfl, hwa, hwb, hp⟩, ok, q⟩ := h
    refine ⟨_, (pss_cons (ps_set (i := 1) sc_stems.nd rfl (.inl rfl) (pe_listRg rfl (by rfl) M.list (prg_1 (by rfl) M.range (pe_ix ix_tup (pv 0) pe_int (fun _ _ => rfl)))))
      (pss_cons (ps_set (i := 2) sc_stems.nd rfl (.inl rfl) (pe_lst pa_nil))
      (pss_cons (ps_for PassesOwn.never rfl (pi_enumT (by rfl) me (pa_cons (pe_ix ix_tup (pv 0) pe_int (fun _ _ => rfl)) pa_nil)) (pg_tup rfl (pgs_cons (pg_name (i := 3) sc_stems.nd rfl (.inl rfl)) (pgs_cons (pg_tup rfl (pgs_cons (pg_name (i := 4) sc_stems.nd rfl (.inl rfl)) (pgs_cons (pg_name (i := 5) sc_stems.nd rfl (.inl rfl)) (pgs_cons (pg_name (i := 6) sc_stems.nd rfl (.inl rfl)) pgs_nil)))) pgs_nil)))
        (pss_cons (ps_asg (pe_tup (pa_cons (pe_ix ix_list (pv 1) (pv 4) (fun _ _ => rfl)) (pa_cons (pe_ix ix_list (pv 1) (pv 5) (fun _ _ => rfl)) pa_nil))) (pg_tup rfl (pgs_cons (pg_name (i := 7) sc_stems.nd rfl (.inr rfl)) (pgs_cons (pg_name (i := 8) sc_stems.nd rfl (.inr rfl)) pgs_nil))))
        (pss_one (ps_if (pt_cmpR op_ne (pv 7) (pv 8) (nomark _))
          (pss_cons (ps_expr (pe_bm PySem.F.plainAttrs_list PySem.F.slot_list_append PySem.F.type_list_append mt_append (pv 2) (pa_cons (pv 3) pa_nil)))
          (pss_one (ps_setLc (i := 1) (own := [("label", 9)]) (g := gName 9) (tt := tYes) rfl sc_stems.nd rfl rfl (sw_true rfl rfl rfl (by decide +kernel)) (pi_list (pv 1)) (blkOk_by (N := N_stems) (sc := defScope s_stems) (own := [("label", 9)]) (by decide +kernel)) (fun _ _ _ _ _ => (pg_name (i := 9) sc_stems.nd rfl (.inl rfl))) (fun _ _ _ _ _ => pts_nil) (fun _ _ _ _ _ => (pe_ifExp (pt_cmpR op_eq (pv 9) (pv 7) (nomark _)) (pv 8) (pv 9))))))
          pss_nil))))
      (pss_one (ps_ret (pe_callTy call_tuple_of (by rfl) M.tuple (by decide +kernel) (pa_cons (pv 2) pa_nil))))))), ?_⟩
    obtain ⟨k, rfl⟩ : ∃ k : Nat, n = k := ⟨n.toNat, by have := ok.lo; omega⟩
    have hk := ok.hi
    have few := ok.few
    have hlen : us.length = ts.length := Paired.length hp
    refine ⟨.ref wa, rfl, wa, _, 0, .int k, rfl, rfl, SqT.of hwa, rfl, k, rfl, RgOk.of_le (by omega) (by omega) (by omega) (by omega), fun L nL => ?_⟩
    rw [lf_id]
    have s1 : Same H (upd H L (.lst (lf (fun i => i) k))) := same_new nL
    have hL1 : (upd H L (.lst (lf (fun i => i) k))) L = some (.lst (lf (fun i => i) k)) := upd_same
    generalize upd H L (.lst (lf (fun i => i) k)) = H1 at s1 hL1
    refine ⟨Nat.zero_le _, fun Z nZ => ?_⟩
    have nZ0 : H Z = none := s1.free nZ
    have hLZ : L ≠ Z := ne_of_none hL1 nZ
    have s2 : Same H (upd H1 Z (.lst [])) := s1.trans (same_new nZ)
    refine ⟨.ref wa, rfl, wa, _, 1, .ref wb, rfl, rfl, SqT.of (s2 _ _ hwa), rfl, wb, us, rfl, SqT.of (s2 _ _ hwb), ?_⟩
    refine for_it (walk_enumT (xs := us)) (fun i σ' H' => ∃ (y3 y4 y5 y6 y7 y8 : Option V) (L : Addr) (g : Int → Int), σ' = [some (.ref wa), some (.ref L), some (.ref Z), y3, y4, y5, y6, y7, y8, none] ∧ L ≠ Z ∧ H' L = some (.lst (lf g k)) ∧ Lab (ts.take i) k g ∧ H' Z = some (.lst ((stemsTo ts i).map V.int)) ∧ Same H H') ⟨none, none, none, none, none, none, L, _, rfl, hLZ, by rw [upd_ne hLZ]; exact hL1, by rw [List.take_zero]; exact lab_nil k, upd_same, s2⟩ (fun i σ' H' _ h => by
      obtain ⟨_, _, _, _, _, _, _, _, _, _, _, _, _, s3⟩ := h
      exact SqT.of (s3 _ _ hwb)) ?_ ?_
    · clear hL1 hLZ s1 s2
      rintro i x σ' H2 H3 hi ⟨y3, y4, y5, y6, y7, y8, L, g, rfl, hLZ, hL, lab, hZ, s2⟩ ⟨T, x1, y1, rfl, nT, rfl, gx, gy⟩
      obtain rfl : V.int (i : Nat) = x1 := Option.some.inj gx
      obtain ⟨t, et, c, rfl, hc⟩ := Paired.at hp gy
      have okt := ok.ok t (List.mem_of_getElem? et)
      have sT := same_new (o := .tup [.int (i : Nat), .ref c]) nT
      have s3 := s2.trans sT
      have hL3 := sT _ _ hL
      have hZ3 := sT _ _ hZ
      refine ⟨T, _, rfl, SqT.of upd_same, rfl, _, _, rfl, _, _, rfl, c, _, rfl, SqT.of (s3 _ _ hc), rfl, _, _, rfl, _, _, rfl, _, _, rfl, rfl, rfl, ?_⟩
      refine ⟨.ref L, rfl, .int t.one, rfl, L, _, t.one, _, rfl, rfl, SqL.of hL3, lf_at g okt.1 okt.2.1, .ref L, rfl, .int t.other, rfl, L, _, t.other, _, rfl, rfl, SqL.of hL3, lf_at g okt.2.2.1 okt.2.2.2.1, by show 2 ≤ sizeLine; decide, fun q1 n1 => ⟨q1, _, rfl, SqT.of upd_same, rfl, _, _, rfl, _, _, rfl, rfl, ?_⟩⟩
      have s4 := s3.trans (same_new (o := .tup [.int (g t.one), .int (g t.other)]) n1)
      have hL4 := same_new (o := .tup [.int (g t.one), .int (g t.other)]) n1 _ _ hL3
      have hZ4 := same_new (o := .tup [.int (g t.one), .int (g t.other)]) n1 _ _ hZ3
      generalize upd (upd H2 T (.tup [.int (i : Nat), .ref c])) q1 (.tup [.int (g t.one), .int (g t.other)]) = H4 at s4 hL4 hZ4
      have st := stem_iff et
      have lb := stemsTo_len ts i
      refine ⟨.int (g t.one), rfl, .int (g t.other), rfl, rfl, _, rfl, ?_⟩
      rw [neInt]
      by_cases e : g t.one = g t.other
      · rw [decide_eq_true e]
        have no : ¬ stemB ts i = true := fun z => st.mp z ((lab _ _ okt.1 okt.2.1 okt.2.2.1 okt.2.2.2.1).mp e)
        refine ⟨_, _, _, _, _, _, L, g, rfl, hLZ, hL4, by rw [take_snoc et]; exact lab_same lab okt e, ?_, s4⟩
        rw [stemsTo_succ, if_neg no, List.append_nil]
        exact hZ4
      · rw [decide_eq_false e]
        have yes : stemB ts i = true := st.mpr fun z => e ((lab _ _ okt.1 okt.2.1 okt.2.2.1 okt.2.2.2.1).mpr z)
        refine ⟨.ref Z, rfl, .inl ⟨rfl, _, SqL.of hZ4⟩, .int i, rfl, Z, _, _, rfl, rfl, hZ4, by rw [List.length_map]; exact small1000 (by omega), ?_⟩
        have hL5 : (upd H4 Z (.lst ((stemsTo ts i).map V.int ++ [.int i]))) L = some (.lst (lf g k)) := by rw [upd_ne hLZ]; exact hL4
        have hZ5 : (upd H4 Z (.lst ((stemsTo ts i).map V.int ++ [.int i]))) Z = some (.lst ((stemsTo ts (i + 1)).map V.int)) := by
          rw [upd_same, stemsTo_succ, if_pos yes, List.map_append]
          rfl
        have s5 : Same H (upd H4 Z (.lst ((stemsTo ts i).map V.int ++ [.int i]))) := Same.mut s4 nZ0
        generalize upd H4 Z (.lst ((stemsTo ts i).map V.int ++ [.int i])) = H5 at hL5 hZ5 s5
        refine ⟨.ref L, rfl, L, rfl, ⟨_, SqL.of hL5⟩, fun D nD => ?_⟩
        refine lc_list (xs := lf g k) (fun j H' => H' D = some (.lst (lf (mrg g (g t.one) (g t.other)) j)) ∧ Same H5 H') ⟨upd_same, same_new nD⟩ (fun j H' _ h => SqL.of (h.2 _ _ hL5)) ?_ ?_
        · rintro j x H6 ex ⟨hD, s6⟩
          have hj : j < k := by
            have := (List.getElem?_eq_some_iff.mp ex).1
            rw [lf_len] at this
            exact this
          rw [lf_get? g hj] at ex
          obtain rfl := Option.some.inj ex
          refine ⟨rfl, .int (g j), rfl, .int (g t.one), rfl, rfl, _, rfl, ?_⟩
          rw [eqInt, lf_succ]
          have sz : (lf (mrg g (g t.one) (g t.other)) j).length < sizeLine := by rw [lf_len]; exact small1000 (by omega)
          by_cases ej : g j = g t.one
          · rw [decide_eq_true ej]
            have em : mrg g (g t.one) (g t.other) j = g t.other := if_pos ej
            rw [em]
            exact ⟨.int (g t.other), rfl, _, hD, sz, upd_same, Same.mut s6 nD⟩
          · rw [decide_eq_false ej]
            have em : mrg g (g t.one) (g t.other) j = g j := if_neg ej
            rw [em]
            exact ⟨.int (g j), rfl, _, hD, sz, upd_same, Same.mut s6 nD⟩
        · rintro H6 ⟨hD, s6⟩
          rw [lf_len] at hD
          exact ⟨_, _, _, _, _, _, D, _, rfl, Ne.symm (ne_of_none hZ5 nD), hD, by rw [take_snoc et]; exact lab_step lab okt (.inl ⟨rfl, rfl⟩), s6 _ _ hZ5, s5.trans s6⟩
    · rintro σ' H2 ⟨y3, y4, y5, y6, y7, y8, L, g, rfl, hLZ, hL, lab, hZ, s2⟩
      rw [hlen] at hZ
      refine ⟨.ref Z, rfl, Z, _, rfl, .inl ⟨SqL.of hZ, fun r nr => ?_⟩⟩
      exact q r _ (s2.trans (same_new nr)) upd_same
theorem ok_l_groups {f : Addr} {fd : FuncData} (F : Fun K "_law_groups" "_law_groups" s_l_groups f fd) (M : Free mg) (mi : mg "min" = none) (ma : mg "max" = none) : FnOk P w K mg base CX0 1 f fd ["_law_many", "_law_ties"] spGroups := by
  refine F.ok sc_l_groups (fun vs H Q E h => ?_) (fun cdv A outer s H vs Q E hr h => ?_)
  · obtain ⟨n, b, us, ts, rfl, _⟩ := h
    rfl
  · obtain ⟨k, wb, us, ts, rfl, hwb, hp, ok, q⟩ := h
    refine ⟨_, (pss_cons (ps_set (i := 2) sc_l_groups.nd rfl (.inl rfl) (pe_listRg rfl (by rfl) M.list (prg_1 (by rfl) M.range (pv 0))))
      (pss_cons (ps_for PassesOwn.never rfl (pi_tup (pv 1)) (pg_name (i := 3) sc_l_groups.nd rfl (.inl rfl))
        (pss_cons (ps_set (i := 4) sc_l_groups.nd rfl (.inl rfl) (pe_callB (call_min2 rfl) (by rfl) mi (by decide +kernel) (pa_cons (pe_ix ix_list (pv 2) (pe_ix ix_tup (pv 3) pe_int (fun _ _ => rfl)) (fun _ _ => rfl)) (pa_cons (pe_ix ix_list (pv 2) (pe_ix ix_tup (pv 3) pe_int (fun _ _ => rfl)) (fun _ _ => rfl)) pa_nil))))
        (pss_cons (ps_set (i := 5) sc_l_groups.nd rfl (.inl rfl) (pe_callB (call_max2 rfl) (by rfl) ma (by decide +kernel) (pa_cons (pe_ix ix_list (pv 2) (pe_ix ix_tup (pv 3) pe_int (fun _ _ => rfl)) (fun _ _ => rfl)) (pa_cons (pe_ix ix_list (pv 2) (pe_ix ix_tup (pv 3) pe_int (fun _ _ => rfl)) (fun _ _ => rfl)) pa_nil))))
        (pss_one (ps_if (pt_cmpR op_ne (pv 4) (pv 5) (nomark _))
          (pss_one (ps_for PassesOwn.never rfl (pi_range1 (by rfl) M.range (pa_cons (pv 0) pa_nil)) (pg_name (i := 6) sc_l_groups.nd rfl (.inl rfl))
            (pss_one (ps_if (pt_cmpR op_eq (pe_ix ix_list (pv 2) (pv 6) (fun _ _ => rfl)) (pv 5) (nomark _))
              (pss_one (ps_asg (pv 4) (pg_sub (pv 2) (pv 6) set_list)))
              pss_nil))))
          pss_nil)))))
      (pss_one (ps_ret (pv 2))))), ?_⟩
    have hk := ok.hi
    have few := ok.few
    have hlen : us.length = ts.length := Paired.length hp
    refine ⟨.int k, rfl, k, rfl, RgOk.of_le (by omega) (by omega) (by omega) (by omega), fun L nL => ?_⟩
    rw [lf_id]
    have s1 : Same H (upd H L (.lst (lf (fun i => i) k))) := same_new nL
    refine ⟨.ref wb, rfl, wb, rfl, ⟨_, SqT.of (s1 _ _ hwb)⟩, ?_⟩
    refine for_tup (xs := us) (fun i σ' H' => ∃ (y3 y4 y5 y6 : Option V) (g : Int → Int), σ' = [some (.int k), some (.ref wb), some (.ref L), y3, y4, y5, y6] ∧ H' L = some (.lst (lf g k)) ∧ Heads ts k i g ∧ Same H H') ⟨none, none, none, none, _, rfl, upd_same, heads_nil ts k, s1⟩ (fun i σ' H' _ h => by
      obtain ⟨_, _, _, _, _, _, _, _, s2⟩ := h
      exact SqT.of (s2 _ _ hwb)) ?_ ?_
    · rintro i x σ' H2 ex ⟨y3, y4, y5, y6, g, rfl, hL, hd, s2⟩
      obtain ⟨t, et, c, rfl, hc⟩ := Paired.at hp ex
      have okt := ok.ok t (List.mem_of_getElem? et)
      have hc2 := s2 _ _ hc
      refine ⟨.ref L, rfl, .ref c, rfl, c, _, 0, _, rfl, rfl, SqT.of hc2, rfl, L, _, t.one, _, rfl, rfl, SqL.of hL, lf_at g okt.1 okt.2.1, .ref L, rfl, .ref c, rfl, c, _, 1, _, rfl, rfl, SqT.of hc2, rfl, L, _, t.other, _, rfl, rfl, SqL.of hL, lf_at g okt.2.2.1 okt.2.2.2.1, g t.one, g t.other, rfl, ?_⟩
      refine ⟨.ref L, rfl, .ref c, rfl, c, _, 0, _, rfl, rfl, SqT.of hc2, rfl, L, _, t.one, _, rfl, rfl, SqL.of hL, lf_at g okt.1 okt.2.1, .ref L, rfl, .ref c, rfl, c, _, 1, _, rfl, rfl, SqT.of hc2, rfl, L, _, t.other, _, rfl, rfl, SqL.of hL, lf_at g okt.2.2.1 okt.2.2.2.1, g t.one, g t.other, rfl, ?_⟩
      refine ⟨_, rfl, _, rfl, rfl, _, rfl, ?_⟩
      rw [neInt]
      by_cases e : g t.one = g t.other
      · have e2 : (if g t.other < g t.one then g t.other else g t.one) = (if g t.other > g t.one then g t.other else g t.one) := by
          split <;> split <;> omega
        rw [decide_eq_true e2]
        exact ⟨_, _, _, _, g, rfl, hL, heads_same hd et okt e, s2⟩
      · obtain ⟨p, r, hpq, e3, e4⟩ : ∃ p r : Int, ((p = t.one ∧ r = t.other) ∨ (p = t.other ∧ r = t.one)) ∧ (if g t.other < g t.one then g t.other else g t.one) = g r ∧ (if g t.other > g t.one then g t.other else g t.one) = g p := by
          by_cases hlt : g t.other < g t.one
          · exact ⟨t.one, t.other, .inl ⟨rfl, rfl⟩, if_pos hlt, if_neg (by omega)⟩
          · exact ⟨t.other, t.one, .inr ⟨rfl, rfl⟩, if_neg hlt, if_pos (by omega)⟩
        rw [e3, e4]
        have ne : g p ≠ g r := by
          rcases hpq with ⟨rfl, rfl⟩ | ⟨rfl, rfl⟩
          · exact e
          · exact Ne.symm e
        rw [decide_eq_false (Ne.symm ne)]
        refine ⟨.int k, rfl, k, rfl, by omega, by omega, ?_⟩
        rw [Int.toNat_natCast]
        refine for_range (lo := 0) (n := k) (fun j σ' H' => ∃ (y6 : Option V), σ' = [some (.int k), some (.ref wb), some (.ref L), some (.ref c), some (.int (g r)), some (.int (g p)), y6] ∧ H' L = some (.lst (lf (prt g (g p) (g r) j) k)) ∧ Same H H') ⟨_, rfl, by rw [prt_zero]; exact hL, s2⟩ ?_ ?_
        · rintro j σ' H3 hj ⟨y6, rfl, hL3, s3⟩
          rw [show (0 : Int) + (j : Nat) = j from by omega]
          refine ⟨.ref L, rfl, .int j, rfl, L, _, j, _, rfl, rfl, SqL.of hL3, lf_at _ (by omega) (by omega), .int (g p), rfl, rfl, _, rfl, ?_⟩
          rw [eqInt, prt_at]
          by_cases ej : g j = g p
          · rw [decide_eq_true ej]
            refine ⟨.int (g r), rfl, .ref L, rfl, .int j, rfl, L, _, j, j, rfl, rfl, hL3, by rw [lf_len]; exact ixN_of (i := j) (by omega) (by omega), ?_⟩
            exact ⟨_, rfl, by rw [upd_same, prt_eq hj ej], Same.mut s3 nL⟩
          · rw [decide_eq_false ej]
            exact ⟨_, rfl, by rw [prt_ne ej]; exact hL3, s3⟩
        · rintro σ' H3 ⟨y6, rfl, hL3, s3⟩
          rw [prt_end] at hL3
          exact ⟨_, _, _, _, mrg g (g p) (g r), rfl, hL3, heads_step hd et okt hpq ne, s3⟩
    · rintro σ' H2 ⟨y3, y4, y5, y6, g, rfl, hL, hd, s2⟩
      have hc := hd.cnt
      rw [hlen] at hc
      exact ⟨.ref L, rfl, q L g _ s2 hL hc⟩
end
/-! ### the law's own stems -/
structure Bes (H : Hp) (L : Addr) (As : List Addr) (N : Nat → List Int) : Prop where
  at' : H L = some (.lst (As.map V.ref))
  nd : As.Nodup
  each : ∀ j a, As[j]? = some a → H a = some (.lst ((N j).map V.int))
  out : L ∉ As
theorem Bes.same {H H' : Hp} {L : Addr} {As : List Addr} {N : Nat → List Int} (h : Bes H L As N) (s : Same H H') : Bes H' L As N :=
  ⟨s _ _ h.at', h.nd, fun j a e => s _ _ (h.each j a e), h.out⟩
theorem Bes.put {H : Hp} {L : Addr} {As : List Addr} {N : Nat → List Int} (h : Bes H L As N) {j : Nat} {a : Addr} {x : Int} (ea : As[j]? = some a) : Bes (upd H a (.lst ((N j).map V.int ++ [.int x]))) L As (fun i => N i ++ if i = j then [x] else []) := by
  refine ⟨?_, h.nd, fun i b e => ?_, h.out⟩
  · have ne : L ≠ a := fun z => h.out (by rw [z]; exact List.mem_of_getElem? ea)
    rw [upd_ne ne]
    exact h.at'
  · by_cases hij : i = j
    · subst hij
      rw [ea] at e
      cases e
      rw [upd_same, if_pos rfl, List.map_append]
      rfl
    · have ne : b ≠ a := fun z => hij (by
        subst z
        exact (List.getElem?_inj (List.getElem?_eq_some_iff.mp e).1 h.nd).mp (e.trans ea.symm))
      rw [upd_ne ne, if_neg hij, List.append_nil]
      exact h.each i b e
def nbI (st : List Tie) (j : Nat) : List Int := (nbs st j).map (·.1)
theorem nbI_snoc {st : List Tie} {t : Tie} {n : Nat} (ok : TieOk n t) : nbI (st ++ [t]) = fun i => (nbI st i ++ if i = t.one.toNat then [t.other] else []) ++ if i = t.other.toNat then [t.one] else [] := by
  funext i
  unfold nbI
  rw [nbs_snoc, List.map_append]
  unfold nb1
  rw [List.map_append, List.append_assoc]
  obtain ⟨o1, o2, o3, o4, _⟩ := ok
  congr 1
  congr 1
  · by_cases h : (i : Int) = t.one
    · rw [if_pos h, if_pos (by omega)]
      rfl
    · rw [if_neg h, if_neg (by omega)]
      rfl
  · by_cases h : (i : Int) = t.other
    · rw [if_pos h, if_pos (by omega)]
      rfl
    · rw [if_neg h, if_neg (by omega)]
      rfl
theorem nbI_len (st : List Tie) (j : Nat) : (nbI st j).length ≤ 2 * st.length := by
  unfold nbI
  rw [List.length_map]
  exact nbs_len st j
def kvT (ks : List Nb) : List (Key × V) := ks.map fun p => (Sum.inl p.1, V.bl true)
theorem kvT_isSome {z : Int} : ∀ {ks : List Nb}, (valV (kvT ks) (Sum.inl z)).isSome = decide (z ∈ ks.map (·.1))
  | [] => rfl
  | p :: ks => by
    have ih := kvT_isSome (z := z) (ks := ks)
    unfold kvT at ih ⊢
    rw [List.map_cons]
    by_cases e : p.1 = z
    · rw [valV_pos (by rw [e]), decide_eq_true (by rw [← e]; simp)]
      rfl
    · rw [valV_neg (fun y => e (Sum.inl.inj y)), ih, decide_eq_decide, List.map_cons, List.mem_cons]
      exact ⟨.inr, fun h => h.elim (fun y => absurd y.symm e) id⟩
theorem kvT_put {ks : List Nb} {z : Int} {b : Bool} (h : z ∉ ks.map (·.1)) : putK (kvT ks) (Sum.inl z) (.bl true) = kvT (ks ++ [(z, b)]) := by
  unfold putK
  rw [if_neg]
  · unfold kvT
    rw [List.map_append]
    rfl
  · intro g
    rw [List.any_eq_true] at g
    obtain ⟨kv, h1, h2⟩ := g
    unfold kvT at h1
    rw [List.mem_map] at h1
    obtain ⟨p, hp, rfl⟩ := h1
    exact h (List.mem_map.mpr ⟨p, hp, Sum.inl.inj (of_decide_eq_true h2)⟩)
theorem kvT_len (ks : List Nb) : (kvT ks).length = ks.length := by unfold kvT; rw [List.length_map]
def spLStems : Sp := fun vs H Q _ => ∃ (v : V) (n : Int) (ts : List Tie), vs = [v] ∧ WebAt H v n ts ∧ WebOk n ts ∧ ∀ r H', Same H H' → H' r = some (.lst ((stemsTo ts ts.length).map V.int)) → Q (.ref r) H'
section
variable {P : Program} {w : World} {K : PySem.W.Frag} {mg : Str → Option Value} {base : Heap}
set_option maxHeartbeats 2000000 in
theorem ok_l_stems {f : Addr} {fd : FuncData} (F : Fun K "_law_stems" "_law_stems" s_l_stems f fd) (M : Free mg) (me : mg "enumerate" = none) : FnOk P w K mg base CX0 1 f fd ["_law_web_here"] spLStems := by
  refine F.ok sc_l_stems (fun vs H Q E h => ?_) (fun cdv A outer s H vs Q E hr h => ?_)
  · obtain ⟨v, n, ts, rfl, _⟩ := h
    rfl
  · obtain ⟨v, n, ts, rfl, ⟨wa, wb, us, rfl, hwa, hwb, hp⟩, ok, q⟩ := h
    have hu := hu_of hr
    refine ⟨_, (pss_cons (ps_setLc (i := 1) (own := [("_law_place", 2)]) (g := gName 2) (tt := tYes) rfl sc_l_stems.nd rfl rfl (sw_true rfl rfl rfl (by decide +kernel)) (pi_range1 (by rfl) M.range (pa_cons (pe_ix ix_tup (pv 0) pe_int (fun _ _ => rfl)) pa_nil)) (blkOk_by (N := N_l_stems) (sc := defScope s_l_stems) (own := [("_law_place", 2)]) (by decide +kernel)) (fun _ _ _ _ _ => (pg_name (i := 2) sc_l_stems.nd rfl (.inl rfl))) (fun _ _ _ _ _ => pts_nil) (fun _ _ _ _ _ => (pe_lst pa_nil)))
      (pss_cons (ps_set (i := 3) sc_l_stems.nd rfl (.inl rfl) (pe_lst pa_nil))
      (pss_cons (ps_for PassesOwn.never rfl (pi_enumT (by rfl) me (pa_cons (pe_ix ix_tup (pv 0) pe_int (fun _ _ => rfl)) pa_nil)) (pg_tup rfl (pgs_cons (pg_name (i := 4) sc_l_stems.nd rfl (.inl rfl)) (pgs_cons (pg_name (i := 5) sc_l_stems.nd rfl (.inl rfl)) pgs_nil)))
        (pss_cons (ps_set (i := 6) sc_l_stems.nd rfl (.inl rfl) (pe_lst (pa_cons (pe_ix ix_tup (pv 5) pe_int (fun _ _ => rfl)) pa_nil)))
        (pss_cons (ps_set (i := 7) sc_l_stems.nd rfl (.inl rfl) (pe_disp (pps_cons (pe_ix ix_tup (pv 5) pe_int (fun _ _ => rfl)) pe_bl pps_nil) (by rfl) (by rfl) (fun z => by cases z) (by decide)))
        (pss_cons (ps_while PassesOwn.never (pt_cmpR (op_neE hr.units0) (pv 6) (pe_lst pa_nil) (nomark _))
          (pss_one (ps_for PassesOwn.never rfl (pi_list (pe_ix ix_list (pv 1) (pe_bm0 PySem.F.plainAttrs_list PySem.F.slot_list_pop PySem.F.type_list_pop mt_pop (pv 6)) (fun _ _ => rfl))) (pg_name (i := 8) sc_l_stems.nd rfl (.inl rfl))
            (pss_one (ps_if (pt_cmp (pc_dnotin hu (pv 8) (pv 7)))
              (pss_cons (ps_dput hu (pv 7) (pv 8) pe_bl rfl)
              (pss_one (ps_expr (pe_bm PySem.F.plainAttrs_list PySem.F.slot_list_append PySem.F.type_list_append mt_append (pv 6) (pa_cons (pv 8) pa_nil)))))
              pss_nil)))))
        (pss_one (ps_if (pt_cmp (pc_dnotin hu (pe_ix ix_tup (pv 5) pe_int (fun _ _ => rfl)) (pv 7)))
          (pss_cons (ps_expr (pe_bm PySem.F.plainAttrs_list PySem.F.slot_list_append PySem.F.type_list_append mt_append (pv 3) (pa_cons (pv 4) pa_nil)))
          (pss_cons (ps_expr (pe_bm PySem.F.plainAttrs_list PySem.F.slot_list_append PySem.F.type_list_append mt_append (pe_ix ix_list (pv 1) (pe_ix ix_tup (pv 5) pe_int (fun _ _ => rfl)) (fun _ _ => rfl)) (pa_cons (pe_ix ix_tup (pv 5) pe_int (fun _ _ => rfl)) pa_nil)))
          (pss_one (ps_expr (pe_bm PySem.F.plainAttrs_list PySem.F.slot_list_append PySem.F.type_list_append mt_append (pe_ix ix_list (pv 1) (pe_ix ix_tup (pv 5) pe_int (fun _ _ => rfl)) (fun _ _ => rfl)) (pa_cons (pe_ix ix_tup (pv 5) pe_int (fun _ _ => rfl)) pa_nil))))))
          pss_nil))))))
      (pss_one (ps_ret (pv 3)))))), ?_⟩
    obtain ⟨k, rfl⟩ : ∃ k : Nat, n = k := ⟨n.toNat, by have := ok.lo; omega⟩
    have hk := ok.hi
    have few := ok.few
    have hlen : us.length = ts.length := Paired.length hp
    -- beside
    refine ⟨.ref wa, rfl, wa, _, 0, .int k, rfl, rfl, SqT.of hwa, rfl, k, rfl, by omega, by omega, fun B nB => ?_⟩
    rw [Int.toNat_natCast]
    refine lc_range (lo := 0) (n := k) (fun i H' => ∃ As : List Addr, As.length = i ∧ Bes H' B As (fun _ => []) ∧ (∀ x ∈ As, H x = none) ∧ Same H H') ?_ ?_ ?_
    · exact ⟨[], rfl, ⟨upd_same, List.nodup_nil, fun j a e => by simp at e, by simp⟩, fun x hx => by simp at hx, same_new nB⟩
    · rintro i H1 hi ⟨As, hl, hA, hf, s1⟩
      refine ⟨rfl, Nat.zero_le _, fun p np => ?_⟩
      have hA2 := hA.same (same_new (o := .lst []) np)
      have npA : p ∉ As := fun z => by
        obtain ⟨j, hj⟩ := List.getElem?_of_mem z
        have h1 := hA.each j p hj
        rw [np] at h1
        cases h1
      have npB : p ≠ B := fun z => by
        have h1 := hA.at'
        rw [← z, np] at h1
        cases h1
      refine ⟨_, hA2.at', by rw [List.length_map]; exact small1000 (by omega), As ++ [p], by rw [List.length_append, hl]; rfl, ⟨by rw [upd_same, List.map_append]; rfl, ?_, fun j x e => ?_, fun z => ?_⟩, fun x hx => ?_, Same.mut (s1.trans (same_new np)) nB⟩
      · rw [List.nodup_append]
        refine ⟨hA.nd, by simp, fun x hx y hy z => ?_⟩
        rw [List.mem_singleton] at hy
        subst hy
        subst z
        exact npA hx
      · have hx : x ≠ B := fun z => by
          subst z
          rcases List.mem_append.mp (List.mem_of_getElem? e) with h | h
          · exact hA.out h
          · exact npB (List.mem_singleton.mp h).symm
        rw [upd_ne hx]
        rcases List.mem_append.mp (List.mem_of_getElem? e) with h | h
        · obtain ⟨j2, e2⟩ := List.getElem?_of_mem h
          exact hA2.each j2 x e2
        · rw [List.mem_singleton] at h
          subst h
          exact upd_same
      · rcases List.mem_append.mp z with h | h
        · exact hA.out h
        · exact npB (List.mem_singleton.mp h).symm
      · rcases List.mem_append.mp hx with h | h
        · exact hf x h
        · rw [List.mem_singleton.mp h]
          exact s1.free np
    rintro H0 ⟨As, hl, hA, hf, s0⟩
    -- found
    refine ⟨Nat.zero_le _, fun Z nZ => ?_⟩
    have nZ0 : H Z = none := s0.free nZ
    have sZ := same_new (o := .lst []) nZ
    have hBZ : B ≠ Z := ne_of_none hA.at' nZ
    have hAZ : Z ∉ As := fun z => by
      obtain ⟨j, hj⟩ := List.getElem?_of_mem z
      have h1 := hA.each j Z hj
      rw [nZ] at h1
      cases h1
    have s1 := s0.trans sZ
    refine ⟨.ref wa, rfl, wa, _, 1, .ref wb, rfl, rfl, SqT.of (s1 _ _ hwa), rfl, wb, us, rfl, SqT.of (s1 _ _ hwb), ?_⟩
    refine for_it (walk_enumT (xs := us)) (fun i σ' H' => ∃ (y4 y5 y6 y7 y8 : Option V) (st : List Tie), σ' = [some (.ref wa), some (.ref B), none, some (.ref Z), y4, y5, y6, y7, y8] ∧ H' Z = some (.lst ((stemsTo ts i).map V.int)) ∧ Bes H' B As (nbI st) ∧ st.length ≤ i ∧ (∀ t ∈ st, TieOk k t) ∧ (∀ a b : Int, Rch st a b ↔ Rch (ts.take i) a b) ∧ Same H H') ⟨none, none, none, none, none, [], rfl, upd_same, hA.same sZ, Nat.le_refl _, fun t ht => by simp at ht, fun a b => by rw [List.take_zero], s1⟩ (fun i σ' H' _ h => by
      obtain ⟨_, _, _, _, _, _, _, _, _, _, _, _, s3⟩ := h
      exact SqT.of (s3 _ _ hwb)) ?_ ?_
    · clear s1 sZ hA s0
      rintro i x σ' H2 H3 hi ⟨y4, y5, y6, y7, y8, st, rfl, hZ, hB, lst, okst, rst, s2⟩ ⟨T, x1, y1, rfl, nT, rfl, gx, gy⟩
      obtain rfl : V.int (i : Nat) = x1 := Option.some.inj gx
      obtain ⟨t, et, c, rfl, hc⟩ := Paired.at hp gy
      have okt := ok.ok t (List.mem_of_getElem? et)
      have sT := same_new (o := .tup [.int (i : Nat), .ref c]) nT
      have s3 := s2.trans sT
      have hZ3 := sT _ _ hZ
      have hB3 := hB.same sT
      have hc3 := s3 _ _ hc
      refine ⟨T, _, rfl, SqT.of upd_same, rfl, _, _, rfl, _, _, rfl, rfl, ?_⟩
      generalize upd H2 T (.tup [.int (i : Nat), .ref c]) = H3 at sT s3 hZ3 hB3 hc3
      -- come, seen
      refine ⟨.ref c, rfl, c, _, 0, _, rfl, rfl, SqT.of hc3, rfl, by show 1 ≤ sizeLine; decide, fun C nC => ?_⟩
      have sC := same_new (o := .lst [.int t.one]) nC
      refine fun D nD => ⟨.ref c, rfl, c, _, 0, _, rfl, rfl, SqT.of (same_new nD _ _ (sC _ _ hc3)), rfl, upd_same, [(Sum.inl t.one, .bl true)], rfl, (by show 1 ≤ 15; decide), ?_⟩
      rw [upd_upd]
      have eD : mergeK [] [((Sum.inl t.one : Key), V.bl true)] = kvT [(t.one, false)] := rfl
      rw [eD]
      have hCD : C ≠ D := ne_of_none upd_same nD
      have nD3 : H3 D = none := sC.free nD
      have s35 : Same H3 (upd (upd H3 C (.lst [.int t.one])) D (.dK (kvT [(t.one, false)]))) := sC.trans (same_new nD)
      have hC5 : (upd (upd H3 C (.lst [.int t.one])) D (.dK (kvT [(t.one, false)]))) C = some (.lst ([t.one].map V.int)) := same_new nD _ _ upd_same
      have hD5 : (upd (upd H3 C (.lst [.int t.one])) D (.dK (kvT [(t.one, false)]))) D = some (.dK (kvT [(t.one, false)])) := upd_same
      generalize upd (upd H3 C (.lst [.int t.one])) D (.dK (kvT [(t.one, false)])) = H5 at s35 hC5 hD5
      clear sC nD
      refine ⟨fun m σ' H' => ∃ (y8 : Option V) (ks : List Nb) (wl : List Int), σ' = [some (.ref wa), some (.ref B), none, some (.ref Z), some (.int (i : Nat)), some (.ref c), some (.ref C), some (.ref D), y8] ∧ H' D = some (.dK (kvT ks)) ∧ H' C = some (.lst (wl.map V.int)) ∧ Same H3 H' ∧ SF st t.one ks wl [] ∧ m = 2 * (k - ks.length) + wl.length, ⟨_, _, [(t.one, false)], [t.one], rfl, hD5, hC5, s35, ?_, rfl⟩, ?_⟩
      · exact ⟨by simp, fun p hp => by rw [List.mem_singleton.mp hp]; exact .nil, by simp, fun x hx => hx, Nat.le_refl _, fun x hx h1 => absurd hx h1⟩
      clear hD5 hC5 s35
      rintro m σ' H6 ⟨y8', ks, wl, rfl, hD6, hC6, s36, sf, hm⟩
      refine ⟨.ref C, rfl, Nat.zero_le _, fun e1 n1 => ⟨C, e1, _, rfl, rfl, SqL.of (same_new n1 _ _ hC6), SqL.of upd_same, _, rfl, ?_⟩⟩
      have hD7 := same_new (o := .lst []) n1 _ _ hD6
      have hC7 := same_new (o := .lst []) n1 _ _ hC6
      have s37 := s36.trans (same_new (o := .lst []) n1)
      generalize upd H6 e1 (.lst []) = H7 at hD7 hC7 s37
      clear hD6 hC6 s36 n1
      refine ite2 (fun hb => ?_) (fun hb => ?_)
      · cases hwl : wl with
        | nil => rw [hwl] at hb; cases hb
        | cons z zs =>
        obtain ⟨ys, p, e⟩ : ∃ (ys : List Int) (p : Int), z :: zs = ys ++ [p] := ⟨(z :: zs).dropLast, (z :: zs).getLast (by simp), (List.dropLast_concat_getLast (by simp)).symm⟩
        rw [hwl, e] at hC7 sf hm
        have hpk := sf.sub p (by simp)
        obtain ⟨b, hb1, hb2⟩ := sf.keys hpk
        have hpr := Rch.rng okst ⟨okt.1, okt.2.1⟩ ⟨b, hb2⟩
        have sp := sf.pop
        have e3 : ((ys ++ [p]).map V.int).dropLast = ys.map V.int := by simp
        refine ⟨fun σ' H' => ∃ m', m' < m ∧ ∃ (y8 : Option V) (ks : List Nb) (wl : List Int), σ' = [some (.ref wa), some (.ref B), none, some (.ref Z), some (.int (i : Nat)), some (.ref c), some (.ref C), some (.ref D), y8] ∧ H' D = some (.dK (kvT ks)) ∧ H' C = some (.lst (wl.map V.int)) ∧ Same H3 H' ∧ SF st t.one ks wl [] ∧ m' = 2 * (k - ks.length) + wl.length, fun _ _ h => h, ?_⟩
        refine ⟨.ref B, rfl, .ref C, rfl, .inl ⟨rfl, _, SqL.of hC7⟩, C, _, .int p, rfl, rfl, hC7, by simp, ?_⟩
        rw [e3]
        have hD8 : (upd H7 C (.lst (ys.map V.int))) D = some (.dK (kvT ks)) := by rw [upd_ne (Ne.symm hCD)]; exact hD7
        have hC8 : (upd H7 C (.lst (ys.map V.int))) C = some (.lst (ys.map V.int)) := upd_same
        have s38 : Same H3 (upd H7 C (.lst (ys.map V.int))) := Same.mut s37 nC
        generalize upd H7 C (.lst (ys.map V.int)) = H8 at hD8 hC8 s38
        have B8 := hB3.same s38
        obtain ⟨x, ex, ex'⟩ := getI (xs := As) hpr.1 (by omega)
        have g3 := hB3.each _ _ ex'
        have g := s38 _ _ g3
        have epk : nbI st p.toNat = (nbs st p).map (·.1) := by
          unfold nbI
          rw [show ((p.toNat : Nat) : Int) = p from by omega]
        refine ⟨B, _, p, .ref x, rfl, rfl, SqL.of B8.at', atI_of hpr.1 (by rw [List.getElem?_map, ex']; rfl), x, rfl, ⟨_, SqL.of g⟩, ?_⟩
        refine for_list (xs := (nbI st p.toNat).map V.int) (fun j σ' H' => ∃ (y8 : Option V) (ks : List Nb) (wl : List Int), σ' = [some (.ref wa), some (.ref B), none, some (.ref Z), some (.int (i : Nat)), some (.ref c), some (.ref C), some (.ref D), y8] ∧ H' D = some (.dK (kvT ks)) ∧ H' C = some (.lst (wl.map V.int)) ∧ Same H3 H' ∧ SF st t.one ks wl [p] ∧ (p, b) ∈ ks ∧ (∀ q ∈ (nbs st p).take j, q.1 ∈ ks.map (·.1)) ∧ 2 * (k - ks.length) + wl.length < m) ⟨_, ks, ys, rfl, hD8, hC8, s38, sp, hb1, fun q hq => by simp at hq, by rw [hm, List.length_append]; simp⟩ (fun j σ' H' _ h => by
          obtain ⟨_, _, _, _, _, _, s3', _⟩ := h
          exact SqL.of (s3' _ _ g3)) ?_ ?_
        · rintro j u σ' H9 eu ⟨y8, ks, wl, rfl, hD9, hC9, s39, sf9, hb9, hdn, hlt⟩
          rw [epk, List.map_map, List.getElem?_map] at eu
          obtain ⟨⟨y, fo⟩, ey, rfl⟩ := Option.map_eq_some_iff.mp eu
          have ady := mem_nbs.mp (List.mem_of_getElem? ey)
          have fw := sf9.few okst ⟨okt.1, okt.2.1⟩
          have etk : (nbs st p).take (j + 1) = (nbs st p).take j ++ [(y, fo)] := by
            rw [List.take_add_one, ey]
            rfl
          refine ⟨.int y, rfl, .ref D, rfl, D, _, rfl, DGet.k (k := Sum.inl y) hD9, _, rfl, ?_⟩
          rw [kvT_isSome]
          by_cases hy : y ∈ ks.map (·.1)
          · rw [decide_eq_true hy]
            refine ⟨_, ks, wl, rfl, hD9, hC9, s39, sf9, hb9, fun q hq => ?_, hlt⟩
            rw [etk] at hq
            rcases List.mem_append.mp hq with h | h
            · exact hdn q h
            · rw [List.mem_singleton.mp h]
              exact hy
          · rw [decide_eq_false hy]
            have sfp := sf9.push (sf9.rp _ hb9) ady hy
            have fw2 := sfp.few okst ⟨okt.1, okt.2.1⟩
            have lw := sf9.le
            refine ⟨.ref D, rfl, .int y, rfl, D, _, rfl, DPut.k (k := Sum.inl y) hD9 (by rw [kvT_len]; exact small1000 (by omega)), ?_⟩
            rw [kvT_put (b := b ^^ fo) hy]
            have hC10 : (upd H9 D (.dK (kvT (ks ++ [(y, b ^^ fo)])))) C = some (.lst (wl.map V.int)) := by rw [upd_ne hCD]; exact hC9
            refine ⟨.ref C, rfl, .inl ⟨rfl, _, SqL.of hC10⟩, .int y, rfl, C, _, _, rfl, rfl, hC10, by rw [List.length_map]; exact small1000 (by omega), ?_⟩
            refine ⟨_, ks ++ [(y, b ^^ fo)], wl ++ [y], rfl, ?_, by rw [upd_same, List.map_append]; rfl, Same.mut (Same.mut s39 nD3) nC, sfp, List.mem_append_left _ hb9, fun q hq => ?_, ?_⟩
            · rw [upd_ne (Ne.symm hCD)]
              exact upd_same
            · rw [List.map_append]
              rw [etk] at hq
              rcases List.mem_append.mp hq with h | h
              · exact List.mem_append_left _ (hdn q h)
              · rw [List.mem_singleton.mp h]
                exact List.mem_append_right _ (by simp)
            · rw [List.length_append] at fw2 ⊢
              rw [List.length_append]
              simp only [List.length_cons, List.length_nil] at fw2 ⊢
              omega
        · rintro σ' H9 ⟨y8, ks, wl, rfl, hD9, hC9, s39, sf9, hb9, hdn, hlt⟩
          rw [List.length_map, epk, List.length_map, List.take_length] at hdn
          exact ⟨_, hlt, _, ks, wl, rfl, hD9, hC9, s39, sf9.done hdn, rfl⟩
      · have hwl : wl = [] := by
          cases wl with
          | nil => rfl
          | cons z zs => exact absurd rfl hb
        subst hwl
        have all := sf.all t.other
        have hZ7 := s37 _ _ hZ3
        have hB7 := hB3.same s37
        have hc7 := s37 _ _ hc3
        have s7 := s3.trans s37
        have st' := stem_iff et
        have lb := stemsTo_len ts i
        refine ⟨.ref c, rfl, c, _, 1, _, rfl, rfl, SqT.of hc7, rfl, .ref D, rfl, D, _, rfl, DGet.k (k := Sum.inl t.other) hD7, _, rfl, ?_⟩
        rw [kvT_isSome]
        by_cases hy : t.other ∈ ks.map (·.1)
        · rw [decide_eq_true hy]
          have hR : Rch (ts.take i) t.one t.other := (rst _ _).mp (all.mp hy)
          have no : ¬ stemB ts i = true := fun z => st'.mp z hR
          refine ⟨_, _, _, _, _, st, rfl, ?_, hB7, by omega, okst, fun a b => ?_, s7⟩
          · rw [stemsTo_succ, if_neg no, List.append_nil]
            exact hZ7
          · rw [take_snoc et, rch_snoc (.inl ⟨rfl, rfl⟩), rst]
            constructor
            · exact .inl
            · rintro (z | ⟨z1, z2⟩ | ⟨z1, z2⟩)
              · exact z
              · exact z1.trans (hR.trans z2)
              · exact z1.trans (hR.symm.trans z2)
        · rw [decide_eq_false hy]
          have yes : stemB ts i = true := st'.mpr fun z => hy (all.mpr ((rst _ _).mpr z))
          refine ⟨.ref Z, rfl, .inl ⟨rfl, _, SqL.of hZ7⟩, .int i, rfl, Z, _, _, rfl, rfl, hZ7, by rw [List.length_map]; exact small1000 (by omega), ?_⟩
          have hZ8 : (upd H7 Z (.lst ((stemsTo ts i).map V.int ++ [.int i]))) Z = some (.lst ((stemsTo ts (i + 1)).map V.int)) := by
            rw [upd_same, stemsTo_succ, if_pos yes, List.map_append]
            rfl
          have B8 : Bes (upd H7 Z (.lst ((stemsTo ts i).map V.int ++ [.int i]))) B As (nbI st) := ⟨by rw [upd_ne hBZ]; exact hB7.at', hB7.nd, fun j a e => by rw [upd_ne (fun z => hAZ (by rw [← z]; exact List.mem_of_getElem? e))]; exact hB7.each j a e, hB7.out⟩
          have hc8 : (upd H7 Z (.lst ((stemsTo ts i).map V.int ++ [.int i]))) c = some (.tup [.int t.one, .int t.other, .str (kindS t.foe)]) := tk_lst hZ7 _ _ hc7
          have s8 : Same H (upd H7 Z (.lst ((stemsTo ts i).map V.int ++ [.int i]))) := Same.mut s7 nZ0
          generalize upd H7 Z (.lst ((stemsTo ts i).map V.int ++ [.int i])) = H8 at hZ8 B8 hc8 s8
          obtain ⟨a1, ea1, fa1⟩ := getI (xs := As) okt.1 (by have := okt.2.1; omega)
          obtain ⟨a2, ea2, fa2⟩ := getI (xs := As) okt.2.2.1 (by have := okt.2.2.2.1; omega)
          have h1 := B8.each _ _ fa1
          have l1 := nbI_len st t.one.toNat
          refine ⟨.ref B, rfl, .ref c, rfl, c, _, 0, _, rfl, rfl, SqT.of hc8, rfl, B, _, t.one, .ref a1, rfl, rfl, SqL.of B8.at', atI_of okt.1 (by rw [List.getElem?_map, fa1]; rfl), .inl ⟨rfl, _, SqL.of h1⟩, .ref c, rfl, c, _, 1, _, rfl, rfl, SqT.of hc8, rfl, a1, _, _, rfl, rfl, h1, by rw [List.length_map]; exact small1000 (by omega), ?_⟩
          have B9 := B8.put (x := t.other) fa1
          have hc9 := tk_lst (ys := (nbI st t.one.toNat).map V.int ++ [.int t.other]) h1 _ _ hc8
          have hZ9 : (upd H8 a1 (.lst ((nbI st t.one.toNat).map V.int ++ [.int t.other]))) Z = some (.lst ((stemsTo ts (i + 1)).map V.int)) := by
            rw [upd_ne (fun z => hAZ (by rw [z]; exact List.mem_of_getElem? fa1))]
            exact hZ8
          have s9 : Same H (upd H8 a1 (.lst ((nbI st t.one.toNat).map V.int ++ [.int t.other]))) := Same.mut s8 (hf _ (List.mem_of_getElem? fa1))
          generalize upd H8 a1 (.lst ((nbI st t.one.toNat).map V.int ++ [.int t.other])) = H9 at B9 hc9 hZ9 s9
          have h2 := B9.each _ _ fa2
          have l2 := nbI_len st t.other.toNat
          refine ⟨.ref B, rfl, .ref c, rfl, c, _, 1, _, rfl, rfl, SqT.of hc9, rfl, B, _, t.other, .ref a2, rfl, rfl, SqL.of B9.at', atI_of okt.2.2.1 (by rw [List.getElem?_map, fa2]; rfl), .inl ⟨rfl, _, SqL.of h2⟩, .ref c, rfl, c, _, 0, _, rfl, rfl, SqT.of hc9, rfl, a2, _, _, rfl, rfl, h2, ?_, ?_⟩
          · rw [List.length_map, List.length_append]
            refine small1000 ?_
            split <;> simp only [List.length_cons, List.length_nil] <;> omega
          · have B10 := B9.put (x := t.one) fa2
            refine ⟨_, _, _, _, _, st ++ [t], rfl, ?_, by rw [nbI_snoc okt]; exact B10, by rw [List.length_append]; show _ + 1 ≤ _; omega, fun z hz => ?_, fun a b => ?_, Same.mut s9 (hf _ (List.mem_of_getElem? fa2))⟩
            · rw [upd_ne (fun z => hAZ (by rw [z]; exact List.mem_of_getElem? fa2))]
              exact hZ9
            · rcases List.mem_append.mp hz with h | h
              · exact okst z h
              · rw [List.mem_singleton.mp h]
                exact okt
            · rw [take_snoc et, rch_snoc (.inl ⟨rfl, rfl⟩), rch_snoc (.inl ⟨rfl, rfl⟩), rst, rst, rst, rst, rst]
    · rintro σ' H2 ⟨y4, y5, y6, y7, y8, st, rfl, hZ, hB, lst, okst, rst, s2⟩
      rw [hlen] at hZ
      exact ⟨.ref Z, rfl, q Z _ s2 hZ⟩
end
/-! ### the script stays -/
structure Scr (K : PySem.W.Frag) (H : Hp) (a d : Addr) (xs : List V) : Prop where
  sq : SqL K H a xs
  ne : a ≠ d ∨ ∀ H', SqL K H' a xs
theorem Scr.mk' {K : PySem.W.Frag} {H H' : Hp} {a d : Addr} {xs : List V} (h : SqL K H a xs) (nd : H d = none) (s : Same H H') : Scr K H' a d xs := by
  refine ⟨s.seq h, ?_⟩
  rcases h with (h | ⟨o, h⟩) | h
  · exact .inl (ne_of_none h nd)
  · exact .inl (ne_of_none h nd)
  · exact .inr fun H' => .inr h
theorem Scr.kp {K : PySem.W.Frag} {H H' : Hp} {a d : Addr} {xs : List V} (h : Scr K H a d xs) (k : Kp d d H H') : Scr K H' a d xs := by
  refine ⟨?_, h.ne⟩
  rcases h.ne with n | n
  · rcases h.sq with (h | ⟨o, h⟩) | h
    · exact .inl (.inl (k _ _ n n h))
    · exact .inl (.inr ⟨o, k _ _ n n h⟩)
    · exact .inr h
  · exact n H'
theorem Scr.same {K : PySem.W.Frag} {H H' : Hp} {a d : Addr} {xs : List V} (h : Scr K H a d xs) (s : Same H H') : Scr K H' a d xs := ⟨s.seq h.sq, h.ne⟩
/-! ### the law -/
theorem web_tieok {n : Int} {ts : List Tie} (ok : WebOk n ts) {f : Tie → Tie} (h : ∀ t ∈ ts, TieOk n (f t)) : WebOk n (ts.map f) := ⟨ok.lo, ok.hi, by rw [List.length_map]; exact ok.few, fun t ht => by
  obtain ⟨u, hu, rfl⟩ := List.mem_map.mp ht
  exact h u hu⟩
def frT (t : Tie) : Tie := ⟨t.one, t.other, false⟩
def swT (t : Tie) : Tie := ⟨t.other, t.one, t.foe⟩
theorem turn_places (ps : List Int) (t : Tie) : (turnT ps t).one = t.one ∧ (turnT ps t).other = t.other := by
  unfold turnT
  split <;> exact ⟨rfl, rfl⟩
def spLaw (K : PySem.W.Frag) : Sp := fun vs H Q _ => ∃ (a : Addr) (ns : List Int), vs = [.ref a] ∧ SqL K H a (ns.map V.int) ∧ ns.length ≤ 63 ∧ ∀ H', Q (.bl true) H'
section
variable {P : Program} {w : World} {K : PySem.W.Frag} {mg : Str → Option Value} {base : Heap}
set_option maxHeartbeats 2000000 in
theorem ok_law {f : Addr} {fd : FuncData} (F : Fun K "law" "law" s_law f fd) (M : Free mg) (Dk : Df P w K mg base 1 "_law_well" ["_law_script", "_law_k"] (spWell K)) (Dw : Df P w K mg base 2 "_law_web" ["_law_well_here"] spWeb) (Dp : Df P w K mg base 2 "_law_places" ["_law_well_here", "_law_many"] spPlaces)
    (Da : Df P w K mg base 1 "_law_about" ["_law_web_here", "_law_places_here"] spAbout) (Ds : Df P w K mg base 2 "_law_same" ["_law_found", "_law_due"] (spSame 2)) (Dg : Df P w K mg base 1 "_law_groups" ["_law_many", "_law_ties"] spGroups) (Dl : Df P w K mg base 1 "_law_stems" ["_law_web_here"] spLStems) (Dt : Df P w K mg base 1 "stems" ["web"] spStems) : FnOk P w K mg base CX0 3 f fd ["_law_script"] (spLaw K) := by
  obtain ⟨fK, fdK, GK, gK, kK, bK⟩ := Dk
  obtain ⟨fW, fdW, GW, gW, kW, bW⟩ := Dw
  obtain ⟨fP, fdP, GP, gP, kP, bP⟩ := Dp
  obtain ⟨fA, fdA, GA, gA, kA, bA⟩ := Da
  obtain ⟨fS, fdS, GS, gS, kS, bS⟩ := Ds
  obtain ⟨fG, fdG, GG, gG, kG, bG⟩ := Dg
  obtain ⟨fL, fdL, GL, gL, kL, bL⟩ := Dl
  obtain ⟨fT, fdT, GT, gT, kT, bT⟩ := Dt
  refine F.ok sc_law (fun vs H Q E h => ?_) (fun cdv A outer s H vs Q E hr h => ?_)
  · obtain ⟨a, ns, rfl, _⟩ := h
    rfl
  · obtain ⟨sc, ns, rfl, hS, hlen, q⟩ := h
    have hr1 : Room 1 _ := hr.mono (by decide : 1 ≤ 2)
    refine ⟨_, (pss_cons (ps_for PassesOwn.never rfl (pi_range1 (by rfl) M.range (pa_cons pe_int pa_nil)) (pg_name (i := 1) sc_law.nd rfl (.inl rfl))
        (pss_cons (ps_set (i := 2) sc_law.nd rfl (.inl rfl) (pe_call GK hr1 (by rfl) gK kK bK .nil pass0 (pa_cons (pv 0) (pa_cons (pv 1) pa_nil))))
        (pss_cons (ps_set (i := 3) sc_law.nd rfl (.inr rfl) (pe_call GW hr (by rfl) gW kW bW .nil pass0 (pa_cons (pv 2) pa_nil)))
        (pss_cons (ps_set (i := 4) sc_law.nd rfl (.inl rfl) (pe_callTy call_tuple_of (by rfl) M.tuple (by decide +kernel) (pa_cons (pe_call GL hr1 (by rfl) gL kL bL .nil pass0 (pa_cons (pv 3) pa_nil)) pa_nil)))
        (pss_cons (ps_if (pt_not (pt_val (pe_call GS hr (by rfl) gS kS bS .nil pass0 (pa_cons (pe_call GT hr1 (by rfl) gT kT bT .nil pass0 (pa_cons (pv 3) pa_nil)) (pa_cons (pv 4) pa_nil)))))
          (pss_one (ps_ret pe_bl))
          pss_nil)
        (pss_cons (ps_set (i := 5) sc_law.nd rfl (.inr rfl) (pe_call GG hr1 (by rfl) gG kG bG .nil pass0 (pa_cons (pe_ix ix_tup (pv 3) pe_int (fun _ _ => rfl)) (pa_cons (pe_ix ix_tup (pv 3) pe_int (fun _ _ => rfl)) pa_nil))))
        (Evl.pss_cut (ps_if (pt_cmpR op_ne (pe_callB call_len_seq (by rfl) M.len PySem.boot_len (pa_cons (pv 4) pa_nil)) (pe_op op_sub (pe_ix ix_tup (pv 3) pe_int (fun _ _ => rfl)) (pe_callB call_len_seq (by rfl) M.len PySem.boot_len (pa_cons (pe_lc (own := [("_law_place", 6)]) (g := gName 6) (te := tVar 6) rfl sc_law.nd (pi_range1 (by rfl) M.range (pa_cons (pe_ix ix_tup (pv 3) pe_int (fun _ _ => rfl)) pa_nil)) (blkOk_by (N := N_law) (sc := defScope s_law) (own := [("_law_place", 6)]) (by decide +kernel)) (fun _ _ _ _ _ => (pg_name (i := 6) sc_law.nd rfl (.inl rfl))) (fun _ _ _ _ _ => (pts_one (pt_cmpR op_eq (pe_ix (r := rIxL K) ix_list (pv 5) (pv 6) (fun _ _ => rfl)) (pv 6) (nomark _)))) (fun _ _ _ _ _ => (pv 6))) pa_nil))) (nomark _))
          (pss_one (ps_ret pe_bl))
          pss_nil)
        (Evl.pss_cut (ps_set (i := 7) sc_law.nd rfl (.inl rfl) (pe_callTy call_tuple_of (by rfl) M.tuple (by decide +kernel) (pa_cons (pe_lc (own := [("_law_tie", 8)]) (g := gName 8) (tt := tYes) rfl sc_law.nd (pi_tup (pe_ix ix_tup (pv 3) pe_int (fun _ _ => rfl))) (blkOk_by (N := N_law) (sc := defScope s_law) (own := [("_law_tie", 8)]) (by decide +kernel)) (fun _ _ _ _ _ => (pg_name (i := 8) sc_law.nd rfl (.inl rfl))) (fun _ _ _ _ _ => pts_nil) (fun _ _ _ _ _ => (pe_op op_catU (pe_slice sl_tupU (pv 8) po_none (po_some pe_int)) (pe_tup (pa_cons pe_str pa_nil))))) pa_nil)))
        (Evl.pss_cut (ps_set (i := 9) sc_law.nd rfl (.inl rfl) (pe_callTy call_tuple_of (by rfl) M.tuple (by decide +kernel) (pa_cons (pe_lc (own := [("_law_tie", 8)]) (g := gName 8) (tt := tYes) rfl sc_law.nd (pi_tup (pe_ix ix_tup (pv 3) pe_int (fun _ _ => rfl))) (blkOk_by (N := N_law) (sc := defScope s_law) (own := [("_law_tie", 8)]) (by decide +kernel)) (fun _ _ _ _ _ => (pg_name (i := 8) sc_law.nd rfl (.inl rfl))) (fun _ _ _ _ _ => pts_nil) (fun _ _ _ _ _ => (pe_tup (pa_cons (pe_ix (r := rIxT K) ix_tup (pv 8) pe_int (fun _ _ => rfl)) (pa_cons (pe_ix (r := rIxT K) ix_tup (pv 8) pe_int (fun _ _ => rfl)) (pa_cons (pe_ix (r := rIxT K) ix_tup (pv 8) pe_int (fun _ _ => rfl)) pa_nil)))))) pa_nil)))
        (Evl.pss_cut (ps_for PassesOwn.never rfl (pi_list (pe_lst (pa_cons (pe_call GA hr1 (by rfl) gA kA bA .nil pass0 (pa_cons (pv 3) (pa_cons (pe_call GP hr (by rfl) gP kP bP .nil pass0 (pa_cons (pv 2) (pa_cons (pe_ix ix_tup (pv 3) pe_int (fun _ _ => rfl)) pa_nil))) pa_nil))) (pa_cons (pe_tup (pa_cons (pe_ix ix_tup (pv 3) pe_int (fun _ _ => rfl)) (pa_cons (pv 7) pa_nil))) (pa_cons (pe_tup (pa_cons (pe_ix ix_tup (pv 3) pe_int (fun _ _ => rfl)) (pa_cons (pv 9) pa_nil))) pa_nil))))) (pg_name (i := 10) sc_law.nd rfl (.inl rfl))
          (pss_one (ps_if (pt_cmpR (op_neD hr.units) (pe_call GT hr1 (by rfl) gT kT bT .nil pass0 (pa_cons (pv 10) pa_nil)) (pv 4) (nomark _))
            (pss_one (ps_ret pe_bl))
            pss_nil)))
        (pss_one (ps_if (pt_cmpR (op_neD hr.units) (pe_call GT hr1 (by rfl) gT kT bT .nil pass0 (pa_cons (pe_tup (pa_cons (pe_ix ix_tup (pv 3) pe_int (fun _ _ => rfl)) (pa_cons (pe_callTy call_tuple_of (by rfl) M.tuple (by decide +kernel) (pa_cons (pe_lc (own := [("_law_number", 11)]) (g := gName 11) (tt := tYes) rfl sc_law.nd (pi_tup (pv 4)) (blkOk_by (N := N_law) (sc := defScope s_law) (own := [("_law_number", 11)]) (by decide +kernel)) (fun _ _ _ _ _ => (pg_name (i := 11) sc_law.nd rfl (.inl rfl))) (fun _ _ _ _ _ => pts_nil) (fun _ _ _ _ _ => (pe_ix (r := rIxT K) ix_tup (pe_ix (r := rIxT K) ix_tup (pv 3) pe_int (fun _ _ => rfl)) (pv 11) (fun _ _ => rfl)))) pa_nil)) pa_nil))) pa_nil)) (pe_tupRg rfl (by rfl) M.tuple (prg_1 (by rfl) M.range (pe_callB call_len_seq (by rfl) M.len PySem.boot_len (pa_cons (pv 4) pa_nil)))) (nomark _))
          (pss_one (ps_ret pe_bl))
          pss_nil))))))))))))
      (pss_one (ps_ret pe_bl))), ?_⟩
    refine ⟨3, rfl, by decide, by decide, ?_⟩
    refine for_range (lo := 0) (n := 3) (fun i σ' H' => ∃ y1 y2 y3 y4 y5 y7 y9 y10 : Option V, σ' = [some (.ref sc), y1, y2, y3, y4, y5, none, y7, none, y9, y10, none] ∧ SqL K H' sc (ns.map V.int)) ⟨none, none, none, none, none, none, none, none, rfl, hS⟩ ?_ ?_
    · rintro i σ' H1 hi ⟨y1, y2, y3, y4, y5, y7, y9, y10, rfl, hS1⟩
      rw [show (0 : Int) + (i : Nat) = i from by omega]
      refine ⟨.ref sc, rfl, .int i, rfl, sc, ns, i, rfl, hS1, by omega, fun d H2 s2 nd D2 => ?_⟩
      have hS2 := Scr.mk' hS1 nd s2
      refine ⟨.ref d, rfl, d, 3, rfl, D2, by decide, fun wv n ts H3 hW ok D3 K3 => ?_⟩
      have hS3 := hS2.kp K3
      clear hS2 hS1 K3 D2 s2 nd
      obtain ⟨k, rfl⟩ : ∃ k : Nat, n = k := ⟨n.toNat, by have := ok.lo; omega⟩
      have n1 := ok.lo
      have n2 := ok.hi
      have few := ok.few
      have ld := stemsTo_len ts ts.length
      obtain ⟨wa, wb, us, rfl, hwa, hwb, hp⟩ := hW
      have web : ∀ {H' : Hp}, Tk H3 H' → WebAt H' (.ref wa) k ts := fun t => ⟨wa, wb, us, rfl, t _ _ hwa, t _ _ hwb, ties_tk t hp⟩
      have hul : us.length = ts.length := Paired.length hp
      -- due
      refine ⟨.ref wa, rfl, .ref wa, k, ts, rfl, web fun _ _ e => e, ok, fun r4 H4 s4 h4 => ⟨r4, _, rfl, .inl ⟨SqL.of h4, fun du ndu => ?_⟩⟩⟩
      have s5 := s4.trans (same_new (o := .tup ((stemsTo ts ts.length).map V.int)) ndu)
      have hdu : (upd H4 du (.tup ((stemsTo ts ts.length).map V.int))) du = some (.tup ((stemsTo ts ts.length).map V.int)) := upd_same
      generalize upd H4 du (.tup ((stemsTo ts ts.length).map V.int)) = H5 at s5 hdu
      refine ⟨.ref wa, rfl, .ref wa, k, ts, rfl, web (Same.tk s5), ok, fun r6 H6 s6 h6 => ⟨.ref du, rfl, .ref r6, .ref du, rfl, ints_lk h6 (s6 _ _ hdu) (by omega), fun H7 s7 => ⟨true, rfl, ?_⟩⟩⟩
      have s57 := s6.trans s7
      have s37 := s5.trans s57
      -- heads
      refine ⟨.ref wa, rfl, wa, _, 0, .int k, rfl, rfl, SqT.of (s37 _ _ hwa), rfl, .ref wa, rfl, wa, _, 1, .ref wb, rfl, rfl, SqT.of (s37 _ _ hwa), rfl, k, wb, us, ts, rfl, s37 _ _ hwb, ties_tk (Same.tk s37) hp, ok, fun he g H8 s8 hL cnt => ?_⟩
      have s38 := s37.trans s8
      have hdu8 := s8 _ _ (s57 _ _ hdu)
      have D8 := D3.same s38
      have hS8 := hS3.same s38
      clear s37 s57 s6 s7 s8 h6 h4 s4 s5 hdu
      -- as many as the places less the parts
      refine ⟨fun σ' H' => σ' = [some (.ref sc), some (.int i), some (.ref d), some (.ref wa), some (.ref du), some (.ref he), none, y7, none, y9, y10, none] ∧ Same H8 H', ?_, ?_⟩
      · refine ⟨.ref du, rfl, du, _, rfl, .inr (SqT.of hdu8), .ref wa, rfl, wa, _, 0, .int k, rfl, rfl, SqT.of (s38 _ _ hwa), rfl, .ref wa, rfl, wa, _, 0, .int k, rfl, rfl, SqT.of (s38 _ _ hwa), rfl, k, rfl, by omega, by omega, fun Z nZ => ?_⟩
        rw [Int.toNat_natCast]
        refine lc_range (lo := 0) (n := k) (fun j H' => H' Z = some (.lst (((rng j).filter fun x => decide (g x = x)).map V.int)) ∧ Same H8 H') ⟨upd_same, same_new nZ⟩ ?_ ?_
        · rintro j H9 hj ⟨hZ, s9⟩
          rw [show (0 : Int) + (j : Nat) = j from by omega]
          refine ⟨rfl, .ref he, rfl, .int j, rfl, he, _, j, _, rfl, rfl, SqL.of (s9 _ _ hL), lf_at g (by omega) (by omega), .int j, rfl, rfl, _, rfl, ?_⟩
          rw [eqInt, filter_rng_succ]
          have lb := filter_rng_len (fun x => decide (g x = x)) j
          by_cases hb : g j = j
          · rw [decide_eq_true hb]
            exact ⟨.int j, rfl, _, hZ, by rw [List.length_map]; exact small1000 (by omega), by rw [upd_same]; rfl, Same.mut s9 nZ⟩
          · rw [decide_eq_false hb]
            simp only [Bool.false_eq_true, if_false, List.append_nil]
            exact ⟨hZ, s9⟩
        · rintro H9 ⟨hZ, s9⟩
          refine ⟨Z, _, rfl, .inl (SqL.of hZ), k, _, rfl, rfl, rfl, _, rfl, ?_⟩
          rw [List.length_map, List.length_map, neInt, decide_eq_true (show ((stemsTo ts ts.length).length : Int) = (k : Int) - (((rng k).filter fun x => decide (g x = x)).length : Int) by omega)]
          exact ⟨rfl, s9⟩
      rintro σ' H9 ⟨rfl, s9⟩
      have s39 := s38.trans s9
      have hdu9 := s9 _ _ hdu8
      have D9 := D8.same s9
      have hS9 := hS8.same s9
      clear hL cnt s38 hdu8 D8 hS8 s9 H8
      -- friends
      refine ⟨fun σ' H' => ∃ (fr : Addr) (vs : List V), σ' = [some (.ref sc), some (.int i), some (.ref d), some (.ref wa), some (.ref du), some (.ref he), none, some (.ref fr), none, y9, y10, none] ∧ H' fr = some (.tup vs) ∧ Paired (TieV H') vs (ts.map frT) ∧ Same H9 H', ?_, ?_⟩
      · refine ⟨.ref wa, rfl, wa, _, 1, .ref wb, rfl, rfl, SqT.of (s39 _ _ hwa), rfl, wb, rfl, ⟨_, SqT.of (s39 _ _ hwb)⟩, fun Z nZ => ?_⟩
        refine lc_tup (xs := us) (fun j H' => ∃ vs : List V, H' Z = some (.lst vs) ∧ Paired (TieV H') vs ((ts.take j).map frT) ∧ Same H9 H') ⟨[], upd_same, .nil, same_new nZ⟩ (fun j H' _ h => by
          obtain ⟨_, _, _, s⟩ := h
          exact SqT.of (s _ _ (s39 _ _ hwb))) ?_ ?_
        · rintro j x H10 ex ⟨vs, hZ, hv, s10⟩
          obtain ⟨t, et, c, rfl, hc⟩ := Paired.at hp ex
          have hj : j < us.length := (List.getElem?_eq_some_iff.mp ex).1
          have lv : vs.length = j := by
            rw [Paired.length hv, List.length_map, List.length_take]
            omega
          refine ⟨rfl, .ref c, rfl, 2, rfl, c, _, rfl, s10 _ _ (s39 _ _ hc), fun r11 H11 s11 h11 => ⟨by show 1 ≤ sizeLine; decide, fun o no => ⟨r11, o, _, _, rfl, rfl, same_new no _ _ h11, upd_same, by show 3 ≤ 100000; decide, fun r12 H12 s12 h12 => ?_⟩⟩⟩
          have s1012 := (s11.trans (same_new (o := .tup [.str "friend"]) no)).trans s12
          have hZ12 := s1012 _ _ hZ
          refine ⟨vs, hZ12, small1000 (by omega), vs ++ [.ref r12], upd_same, ?_, Same.mut (s10.trans s1012) nZ⟩
          rw [map_take_succ et]
          exact Paired.snoc (ties_tk (tk_lst hZ12) (ties_tk (Same.tk s1012) hv)) (show TieV _ _ (frT t) from ⟨r12, rfl, tk_lst hZ12 _ _ h12⟩)
        · rintro H10 ⟨vs, hZ, hv, s10⟩
          rw [hul, List.take_length] at hv
          refine ⟨Z, vs, rfl, .inl ⟨SqL.of hZ, fun r nr => ?_⟩⟩
          exact ⟨r, vs, rfl, upd_same, ties_tk (Same.tk (same_new nr)) hv, s10.trans (same_new nr)⟩
      rintro σ' H10 ⟨fr, fvs, rfl, hfr, hfv, s10⟩
      have s310 := s39.trans s10
      have hdu10 := s10 _ _ hdu9
      have D10 := D9.same s10
      have hS10 := hS9.same s10
      clear s39 hdu9 D9 hS9 s10
      -- the other way about
      refine ⟨fun σ' H' => ∃ (ar : Addr) (vs : List V), σ' = [some (.ref sc), some (.int i), some (.ref d), some (.ref wa), some (.ref du), some (.ref he), none, some (.ref fr), none, some (.ref ar), y10, none] ∧ H' ar = some (.tup vs) ∧ Paired (TieV H') vs (ts.map swT) ∧ Same H10 H', ?_, ?_⟩
      · refine ⟨.ref wa, rfl, wa, _, 1, .ref wb, rfl, rfl, SqT.of (s310 _ _ hwa), rfl, wb, rfl, ⟨_, SqT.of (s310 _ _ hwb)⟩, fun Z nZ => ?_⟩
        refine lc_tup (xs := us) (fun j H' => ∃ vs : List V, H' Z = some (.lst vs) ∧ Paired (TieV H') vs ((ts.take j).map swT) ∧ Same H10 H') ⟨[], upd_same, .nil, same_new nZ⟩ (fun j H' _ h => by
          obtain ⟨_, _, _, s⟩ := h
          exact SqT.of (s _ _ (s310 _ _ hwb))) ?_ ?_
        · rintro j x H11 ex ⟨vs, hZ, hv, s11⟩
          obtain ⟨t, et, c, rfl, hc⟩ := Paired.at hp ex
          have hj : j < us.length := (List.getElem?_eq_some_iff.mp ex).1
          have lv : vs.length = j := by
            rw [Paired.length hv, List.length_map, List.length_take]
            omega
          have hc11 := s11 _ _ (s310 _ _ hc)
          refine ⟨rfl, .ref c, rfl, c, _, 1, _, rfl, rfl, SqT.of hc11, rfl, .ref c, rfl, c, _, 0, _, rfl, rfl, SqT.of hc11, rfl, .ref c, rfl, c, _, 2, _, rfl, rfl, SqT.of hc11, rfl, by show 3 ≤ sizeLine; decide, fun o no => ?_⟩
          have sn := same_new (o := .tup [.int t.other, .int t.one, .str (kindS t.foe)]) no
          have hZ12 := sn _ _ hZ
          refine ⟨vs, hZ12, small1000 (by omega), vs ++ [.ref o], upd_same, ?_, Same.mut (s11.trans sn) nZ⟩
          rw [map_take_succ et]
          exact Paired.snoc (ties_tk (tk_lst hZ12) (ties_tk (Same.tk sn) hv)) (show TieV _ _ (swT t) from ⟨o, rfl, tk_lst hZ12 _ _ upd_same⟩)
        · rintro H11 ⟨vs, hZ, hv, s11⟩
          rw [hul, List.take_length] at hv
          refine ⟨Z, vs, rfl, .inl ⟨SqL.of hZ, fun r nr => ?_⟩⟩
          exact ⟨r, vs, rfl, upd_same, ties_tk (Same.tk (same_new nr)) hv, s11.trans (same_new nr)⟩
      rintro σ' H11 ⟨ar, avs, rfl, har, hav, s11⟩
      have s311 := s310.trans s11
      have hdu11 := s11 _ _ hdu10
      have D11 := D10.same s11
      have hS11 := hS10.same s11
      have hfr11 := s11 _ _ hfr
      have hfv11 := ties_tk (Same.tk s11) hfv
      clear s310 hdu10 D10 hS10 s11 hfr hfv
      -- three webs of its frame
      refine ⟨fun σ' H' => ∃ (y10 : Option V), σ' = [some (.ref sc), some (.int i), some (.ref d), some (.ref wa), some (.ref du), some (.ref he), none, some (.ref fr), none, some (.ref ar), y10, none] ∧ H' du = some (.tup ((stemsTo ts ts.length).map V.int)) ∧ Tk H3 H' ∧ Scr K H' sc d (ns.map V.int), ?_, ?_⟩
      · refine ⟨.ref wa, rfl, .ref d, rfl, .ref wa, rfl, wa, _, 0, .int k, rfl, rfl, SqT.of (s311 _ _ hwa), rfl, d, 1003, k, rfl, D11, by decide, n1, n2, fun p ps H12 hp12 r12 o12 l12 D12 K12 => ?_⟩
        have k12 := K12.tk D11
        have t12 : Tk H3 H12 := (Same.tk s311).trans k12
        refine ⟨.ref wa, p, k, ts, ps, rfl, web t12, few, hp12, rising_nodup r12, fun av H13 s13 hA => ?_⟩
        have t13 := t12.trans (Same.tk s13)
        refine ⟨.ref wa, rfl, wa, _, 0, .int k, rfl, rfl, SqT.of (t13 _ _ hwa), rfl, .ref fr, rfl, by show 2 ≤ sizeLine; decide, fun q1 m1 => ?_⟩
        have u1 := same_new (o := .tup [.int k, .ref fr]) m1
        refine ⟨.ref wa, rfl, wa, _, 0, .int k, rfl, rfl, SqT.of (u1 _ _ (t13 _ _ hwa)), rfl, .ref ar, rfl, by show 2 ≤ sizeLine; decide, fun q2 m2 => ⟨by show 3 ≤ sizeLine; decide, fun Z nZ => ⟨Z, rfl, ⟨_, SqL.of upd_same⟩, ?_⟩⟩⟩
        have u2 := same_new (o := .tup [.int k, .ref ar]) m2
        have u3 := same_new (o := .lst [av, .ref q1, .ref q2]) nZ
        have u23 := u2.trans u3
        have u13 := u1.trans u23
        have t16 := t13.trans (Same.tk u13)
        have t1116 : Tk H11 _ := (k12.trans (Same.tk s13)).trans (Same.tk u13)
        have hA16 := hA.tk (Same.tk u13)
        have hF16 : WebAt _ (.ref q1) (k : Int) (ts.map frT) := ⟨q1, fr, fvs, rfl, u23 _ _ upd_same, t1116 _ _ hfr11, ties_tk t1116 hfv11⟩
        have hR16 : WebAt _ (.ref q2) (k : Int) (ts.map swT) := ⟨q2, ar, avs, rfl, u3 _ _ upd_same, t1116 _ _ har, ties_tk t1116 hav⟩
        have hdu16 := t1116 _ _ hdu11
        have hS16 := ((hS11.kp K12).same s13).same u13
        have hZ16 : (upd (upd (upd H13 q1 (.tup [.int k, .ref fr])) q2 (.tup [.int k, .ref ar])) Z (.lst [av, .ref q1, .ref q2])) Z = some (.lst [av, .ref q1, .ref q2]) := upd_same
        generalize upd (upd (upd H13 q1 (.tup [.int k, .ref fr])) q2 (.tup [.int k, .ref ar])) Z (.lst [av, .ref q1, .ref q2]) = H16 at t16 t1116 hA16 hF16 hR16 hdu16 hS16 hZ16
        have each : ∀ (j : Nat) x, [av, V.ref q1, V.ref q2][j]? = some x → ∃ ts', WebAt H16 x k ts' ∧ WebOk k ts' ∧ Framed ts ts' := fun j x ex => by
          match j, ex with
          | 0, ex =>
            obtain rfl := Option.some.inj ex
            refine ⟨_, hA16, web_tieok ok fun t ht => ?_, Framed.map fun t ht => .inl (turn_places ps t)⟩
            obtain ⟨o1, o2, o3, o4, o5⟩ := ok.ok t ht
            have e := turn_places ps t
            exact ⟨by rw [e.1]; exact o1, by rw [e.1]; exact o2, by rw [e.2]; exact o3, by rw [e.2]; exact o4, by rw [e.1, e.2]; exact o5⟩
          | 1, ex =>
            obtain rfl := Option.some.inj ex
            exact ⟨_, hF16, web_tieok ok fun t ht => ok.ok t ht, Framed.map fun t ht => .inl ⟨rfl, rfl⟩⟩
          | 2, ex =>
            obtain rfl := Option.some.inj ex
            refine ⟨_, hR16, web_tieok ok fun t ht => ?_, Framed.map fun t ht => .inr ⟨rfl, rfl⟩⟩
            obtain ⟨o1, o2, o3, o4, o5⟩ := ok.ok t ht
            exact ⟨o3, o4, o1, o2, Ne.symm o5⟩
          | j + 3, ex => simp at ex
        refine for_list (xs := [av, .ref q1, .ref q2]) (fun j σ' H' => ∃ y10 : Option V, σ' = [some (.ref sc), some (.int i), some (.ref d), some (.ref wa), some (.ref du), some (.ref he), none, some (.ref fr), none, some (.ref ar), y10, none] ∧ Same H16 H') ⟨_, rfl, Same.refl _⟩ (fun j σ' H' _ h => by
          obtain ⟨_, _, s⟩ := h
          exact SqL.of (s _ _ hZ16)) ?_ ?_
        · rintro j x σ' H17 ex ⟨y10, rfl, s17⟩
          obtain ⟨ts', hX, okX, frm⟩ := each j x ex
          refine ⟨x, rfl, x, k, ts', rfl, hX.tk (Same.tk s17), okX, fun r18 H18 s18 h18 => ⟨.ref du, rfl, ?_⟩⟩
          rw [stems_framed frm] at h18
          refine ⟨intsD _, intsD _, IntsV.dp ⟨r18, rfl, h18⟩, IntsV.dp ⟨du, rfl, s18 _ _ (s17 _ _ hdu16)⟩, shaped_intsD _, shaped_intsD _, _, rfl, ?_⟩
          rw [SeqAt.eqv_refl _ (lay_intsD _)]
          exact ⟨_, rfl, s17.trans s18⟩
        · rintro σ' H17 ⟨y10, rfl, s17⟩
          exact ⟨_, rfl, s17 _ _ hdu16, t16.trans (Same.tk s17), hS16.same s17⟩
      rintro σ' H12 ⟨y10', rfl, hdu12, t12, hS12⟩
      -- the stems alone
      refine ⟨.ref wa, rfl, wa, _, 0, .int k, rfl, rfl, SqT.of (t12 _ _ hwa), rfl, .ref du, rfl, du, rfl, ⟨_, SqT.of hdu12⟩, fun Z nZ => ?_⟩
      refine lc_tup (xs := (stemsTo ts ts.length).map V.int) (fun j H' => ∃ vs : List V, H' Z = some (.lst vs) ∧ Paired (TieV H') vs (((stemsTo ts ts.length).take j).map fun x => tieN ts x.toNat) ∧ Same H12 H') ⟨[], upd_same, .nil, same_new nZ⟩ (fun j H' _ h => by
        obtain ⟨_, _, _, s⟩ := h
        exact SqT.of (s _ _ hdu12)) ?_ ?_
      · rintro j x H13 ex ⟨vs, hZ, hv, s13⟩
        rw [List.getElem?_map] at ex
        obtain ⟨y, ey, rfl⟩ := Option.map_eq_some_iff.mp ex
        have ym := (stemsTo_mem.mp (List.mem_of_getElem? ey)).1
        have hj : j < (stemsTo ts ts.length).length := (List.getElem?_eq_some_iff.mp ey).1
        have lv : vs.length = j := by
          rw [Paired.length hv, List.length_map, List.length_take]
          omega
        obtain ⟨vv, e1, e2⟩ := getI (xs := us) ym.1 (by omega)
        obtain ⟨t, et, hvt⟩ := Paired.at hp e2
        have t13 := t12.trans (Same.tk s13)
        refine ⟨rfl, .ref wa, rfl, wa, _, 1, .ref wb, rfl, rfl, SqT.of (t13 _ _ hwa), rfl, .int y, rfl, wb, us, y, vv, rfl, rfl, SqT.of (t13 _ _ hwb), e1, vs, hZ, small1000 (by omega), vs ++ [vv], upd_same, ?_, Same.mut s13 nZ⟩
        rw [map_take_succ ey, tieN_of et]
        exact Paired.snoc (ties_tk (tk_lst hZ) hv) (hvt.tk (t13.trans (tk_lst hZ)))
      · rintro H13 ⟨vs, hZ, hv, s13⟩
        rw [List.length_map, List.take_length] at hv
        refine ⟨Z, vs, rfl, .inl ⟨SqL.of hZ, fun r nr => ⟨by show 2 ≤ sizeLine; decide, fun o no => ?_⟩⟩⟩
        have s15 := (same_new (o := .tup vs) nr).trans (same_new (o := .tup [.int k, .ref r]) no)
        have s1215 := s13.trans s15
        have okO : WebOk k ((stemsTo ts ts.length).map fun x => tieN ts x.toNat) := ⟨ok.lo, ok.hi, by rw [List.length_map]; omega, fun t ht => by
          obtain ⟨x, hx, rfl⟩ := List.mem_map.mp ht
          have xm := (stemsTo_mem.mp hx).1
          have h : x.toNat < ts.length := by omega
          rw [tieN_of (List.getElem?_eq_getElem h)]
          exact ok.ok _ (List.getElem_mem h)⟩
        refine ⟨.ref o, k, _, rfl, ⟨o, r, vs, rfl, upd_same, same_new no _ _ upd_same, ties_tk (Same.tk s15) hv⟩, okO, fun r16 H16 s16 h16 => ?_⟩
        rw [List.length_map, stems_own] at h16
        have hdu16 := s16 _ _ (s1215 _ _ hdu12)
        refine ⟨.ref du, rfl, du, _, rfl, .inr (SqT.of hdu16), _, rfl, ?_, fun r17 n17 => ?_⟩
        · rw [List.length_map]
          exact RgOk.of_le (by omega) (by omega) (by omega) (by omega)
        · have e17 : rgV 0 (((stemsTo ts ts.length).map V.int).length : Int) = (rng (stemsTo ts ts.length).length).map V.int := by
            rw [rgV_rng, Int.toNat_natCast, List.length_map]
          rw [e17] at *
          have s17 := same_new (o := .tup ((rng (stemsTo ts ts.length).length).map V.int)) n17
          refine ⟨intsD _, intsD _, IntsV.dp ⟨r16, rfl, s17 _ _ h16⟩, IntsV.dp ⟨r17, rfl, upd_same⟩, shaped_intsD _, shaped_intsD _, _, rfl, ?_⟩
          rw [SeqAt.eqv_refl _ (lay_intsD _)]
          exact ⟨_, _, _, _, _, _, _, _, rfl, (((hS12.same s1215).same s16).same s17).sq⟩
    · rintro σ' H2 ⟨y1, y2, y3, y4, y5, y7, y9, y10, rfl, _⟩
      exact q _
end
/-! ### the end of a law whose defs hold generator expressions: their tables are empty behind the top -/
theorem walk_tabs {l : PySem.W.OpenLaw} {n k : Nat} {q : Program} {loose : List Str} {XP : (Str → Option Value) → Heap → Prop} {YP : World → Heap → Prop} {d : DefRec} {K : Params → PySem.W.Frag} {x : Str}
    (hn : l.most = some n) (hn2 : n ≤ sizeLine) (hdf : d.params.defaults = []) (hr : Room k callerA) (hY : ∀ (w : World) (h : Heap), YP w h → (K w.params).In h)
    (F : ∀ (w : World) (mg : Str → Option Value) (fa : Addr) (h : Heap), (K w.params).In h → h.Ns mainGlobals mg → mg d.name = some (.ref fa) →
      (∀ (y : Str) (fy : Addr), ((recsOf q).any fun e => e.name == y) = true → mg y = some (.ref fy) → LamX.OwnTab (K w.params) fy h) → LamX.LawAtS l w (K w.params) CX0 k n x mg fa h) :
    PySem.W.WalkO q loose XP YP l.row.toRowW d [] (fun f vs => PySem.call f vs) := by
  refine Att.attach_callB hn hdf fun w s₀ s₁ mg mb fa o pm cd doc a vs ns G Y ho hd hcd hmg hobj hints hlen hbits hg => ?_
  have KX := hY w _ Y
  have tabs : ∀ (y : Str) (fy : Addr), ((recsOf q).any fun e => e.name == y) = true → mg y = some (.ref fy) → LamX.OwnTab (K w.params) fy s₁.heap := fun y fy hy hm c P o1 fd1 e dd vs1 sl k1 k2 k3 k4 k5 => by
    obtain ⟨dL, hmem, hnm⟩ := List.any_eq_true.mp hy
    have hnm : dL.name = y := beq_iff_eq.mp hnm
    obtain ⟨a', o', fd', c', P', h1, h2, h3, h4, h5, h6⟩ := G.T.tab dL hmem
    rw [hnm, hm] at h1
    cases h1
    rw [KX _ _ k1] at h2
    cases h2
    rw [k2] at h3
    cases h3
    rw [k3] at h4
    cases h4
    obtain ⟨⟨oc, vc, e1, _, e3, e4⟩, hP⟩ := h6
    rw [KX _ _ k4] at e1
    cases e1
    cases e3
    rw [k5] at e4
    cases e4
    exact hP
  obtain ⟨fd, cs, sp, hT, nT, C, hb, hsp, hF⟩ := F w mg fa _ KX G.T.g hmg tabs
  exact LamX.law_callTs KX G.T.g G.T.b G.T.builtins G.T.nolimit hg hT nT C G.T.bmain hobj hints (Nat.le_trans hlen hn2) hr hF hb (fun H hH hS => hsp H a ns hlen hbits hH hS) fun H e s' z => z
/-- where a def stands, and where its code object does -/
structure At (K : PySem.W.Frag) (x : Str) (st : Stmt) (f : Addr) : Prop where
  ns : PySem.W.nsIn K mainGlobals x = some (some (.ref f))
  ex : ∃ (oc : Value) (od : Option Addr) (kV doc pm : Value) (an : Option Addr) (cdv ct : Value) (osl : Array (Option Value)),
    K.lookup f = some ⟨oc, od, .func (PySem.W.fnOf x x (defArgs st) (defBody st) (defScope st) .none kV doc pm an cdv ct), osl⟩ ∧ PySem.W.codeIn K cdv x = true
  kp : PySem.W.keepIn K (.ref f) = true
theorem at_mk {K : PySem.W.Frag} {x : Str} {st : Stmt} {f : Addr} {oc : Value} {od an : Option Addr} {osl : Array (Option Value)} {kV doc pm cdv ct : Value} (a : PySem.W.nsIn K mainGlobals x = some (some (.ref f)))
    (l : K.lookup f = some ⟨oc, od, .func (PySem.W.fnOf x x (defArgs st) (defBody st) (defScope st) .none kV doc pm an cdv ct), osl⟩) (c : PySem.W.codeIn K cdv x = true) (k : PySem.W.keepIn K (.ref f) = true) : At K x st f := ⟨a, ⟨oc, od, kV, doc, pm, an, cdv, ct, osl, l, c⟩, k⟩
theorem At.fn {K : PySem.W.Frag} {x : Str} {st : Stmt} {f : Addr} (h : At K x st f) : ∃ fd, Fun K x x st f fd := by
  obtain ⟨oc, od, kV, doc, pm, an, cdv, ct, osl, l, c⟩ := h.ex
  exact ⟨_, fun_mk l c h.kp⟩
section
variable {P : Program} {w : World} {K : PySem.W.Frag} {mg : Str → Option Value} {base : Heap}
theorem Df.of {x : Str} {st : Stmt} {f : Addr} {fd : FuncData} {k : Nat} {ps : List Str} {sp : Sp} (g : mg x = some (.ref f)) (F : Fun K x x st f fd) (G : FnOk P w K mg base CX0 k f fd ps sp)
    (h : ∀ (kV doc pm : Value) (an : Option Addr) (cdv ct : Value) (us : List Value), us.length = ps.length → bindArgs (PySem.W.fnOf x x (defArgs st) (defBody st) (defScope st) .none kV doc pm an cdv ct) ⟨us, []⟩ = pure (ps.zip us)) : Df P w K mg base k x ps sp :=
  ⟨f, fd, G, g, F.kp, F.binds h⟩
end
/-! ### what the top has written -/
section
variable {P : Program} {w : World} {K : PySem.W.Frag} {mg : Str → Option Value} {base : Heap}
theorem law_at {l : PySem.W.OpenLaw} {w : World} {K : PySem.W.Frag} {h : Heap} {mg : Str → Option Value} {fa f0 f1 f2 f3 f4 f5 f6 f7 f8 f9 : Addr} (X : K.In h) (G : h.Ns mainGlobals mg) (hfa : mg "law" = some (.ref fa))
    (a0 : At K "stems" s_stems f0)
    (a1 : At K "_law_well" s_l_well f1)
    (a2 : At K "_law_draw" s_l_draw f2)
    (a3 : At K "_law_web" s_l_web f3)
    (a4 : At K "_law_places" s_l_places f4)
    (a5 : At K "_law_about" s_l_about f5)
    (a6 : At K "_law_same" s_l_same f6)
    (a7 : At K "_law_groups" s_l_groups f7)
    (a8 : At K "_law_stems" s_l_stems f8)
    (a9 : At K "law" s_law f9)
    (z0 : PySem.W.nsIn K mainGlobals "len" = some none)
    (z1 : PySem.W.nsIn K mainGlobals "int" = some none)
    (z2 : PySem.W.nsIn K mainGlobals "bool" = some none)
    (z3 : PySem.W.nsIn K mainGlobals "str" = some none)
    (z4 : PySem.W.nsIn K mainGlobals "list" = some none)
    (z5 : PySem.W.nsIn K mainGlobals "tuple" = some none)
    (z6 : PySem.W.nsIn K mainGlobals "range" = some none)
    (z7 : PySem.W.nsIn K mainGlobals "isinstance" = some none)
    (z8 : PySem.W.nsIn K mainGlobals "sum" = some none)
    (z9 : PySem.W.nsIn K mainGlobals "all" = some none)
    (z10 : PySem.W.nsIn K mainGlobals "zip" = some none)
    (z11 : PySem.W.nsIn K mainGlobals "enumerate" = some none)
    (z12 : PySem.W.nsIn K mainGlobals "min" = some none)
    (z13 : PySem.W.nsIn K mainGlobals "max" = some none) :
    LamX.LawAtS l w K CX0 3 63 "_law_script" mg fa h := by
  have efa := hfa.symm.trans (PySem.W.mg_of X G a9.ns)
  cases efa
  have M : Free mg := ⟨PySem.W.mg_none_of X G z0, PySem.W.mg_none_of X G z1, PySem.W.mg_none_of X G z2, PySem.W.mg_none_of X G z3, PySem.W.mg_none_of X G z4, PySem.W.mg_none_of X G z5, PySem.W.mg_none_of X G z6, PySem.W.mg_none_of X G z7, PySem.W.mg_none_of X G z8⟩
  have m_all := PySem.W.mg_none_of X G z9
  have m_zip := PySem.W.mg_none_of X G z10
  have m_enumerate := PySem.W.mg_none_of X G z11
  have m_min := PySem.W.mg_none_of X G z12
  have m_max := PySem.W.mg_none_of X G z13
  obtain ⟨d0, F0⟩ := a0.fn
  obtain ⟨d1, F1⟩ := a1.fn
  obtain ⟨d2, F2⟩ := a2.fn
  obtain ⟨d3, F3⟩ := a3.fn
  obtain ⟨d4, F4⟩ := a4.fn
  obtain ⟨d5, F5⟩ := a5.fn
  obtain ⟨d6, F6⟩ := a6.fn
  obtain ⟨d7, F7⟩ := a7.fn
  obtain ⟨d8, F8⟩ := a8.fn
  obtain ⟨d9, F9⟩ := a9.fn
  have g0 := PySem.W.mg_of X G a0.ns
  have g1 := PySem.W.mg_of X G a1.ns
  have g2 := PySem.W.mg_of X G a2.ns
  have g3 := PySem.W.mg_of X G a3.ns
  have g4 := PySem.W.mg_of X G a4.ns
  have g5 := PySem.W.mg_of X G a5.ns
  have g6 := PySem.W.mg_of X G a6.ns
  have g7 := PySem.W.mg_of X G a7.ns
  have g8 := PySem.W.mg_of X G a8.ns
  have hb0 : ∀ (s : Shared) (u : Value), BindsTo s d9 ⟨[u], []⟩ [("_law_script", u)] := by
    obtain ⟨oc, od, kV, doc, pm, an, cdv, ct, osl, rfl, _⟩ := F9.ex
    exact fun s u => .of_eq rfl
  refine ⟨d9, [], spLaw K, fun p hp => by simp at hp, fun p hp => by simp at hp, fun p hp => by simp at hp, hb0, fun H a ns hl _ hT hS => ⟨a, ns, rfl, hS, hl, fun _ => rfl⟩, fun base KB GB TB => ?_⟩
  have D0 : Df l.prog w K mg base 1 "stems" ["web"] spStems := .of g0 F0 (ok_stems F0 M m_enumerate) fun _ _ _ _ _ _ us hl => match us, hl with | [_], _ => rfl
  have D1 : Df l.prog w K mg base 1 "_law_well" ["_law_script", "_law_k"] (spWell K) := .of g1 F1 (ok_l_well F1 M) fun _ _ _ _ _ _ us hl => match us, hl with | [_, _], _ => rfl
  have D2 : Df l.prog w K mg base 1 "_law_draw" ["_law_well_here", "_law_most"] spDraw := .of g2 F2 (ok_l_draw F2) fun _ _ _ _ _ _ us hl => match us, hl with | [_, _], _ => rfl
  have D3 : Df l.prog w K mg base 2 "_law_web" ["_law_well_here"] spWeb := .of g3 F3 (ok_l_web F3 M D2) fun _ _ _ _ _ _ us hl => match us, hl with | [_], _ => rfl
  have D4 : Df l.prog w K mg base 2 "_law_places" ["_law_well_here", "_law_many"] spPlaces := .of g4 F4 (ok_l_places F4 M D2) fun _ _ _ _ _ _ us hl => match us, hl with | [_, _], _ => rfl
  have D5 : Df l.prog w K mg base 1 "_law_about" ["_law_web_here", "_law_places_here"] spAbout := .of g5 F5 (ok_l_about F5 M) fun _ _ _ _ _ _ us hl => match us, hl with | [_, _], _ => rfl
  have D6 : Df l.prog w K mg base 2 "_law_same" ["_law_found", "_law_due"] (spSame 2) := .of g6 F6 (ok_l_same F6 M m_all m_zip g6 (F6.binds fun _ _ _ _ _ _ us hl => match us, hl with | [_, _], _ => rfl) 2) fun _ _ _ _ _ _ us hl => match us, hl with | [_, _], _ => rfl
  have D7 : Df l.prog w K mg base 1 "_law_groups" ["_law_many", "_law_ties"] spGroups := .of g7 F7 (ok_l_groups F7 M m_min m_max) fun _ _ _ _ _ _ us hl => match us, hl with | [_, _], _ => rfl
  have D8 : Df l.prog w K mg base 1 "_law_stems" ["_law_web_here"] spLStems := .of g8 F8 (ok_l_stems F8 M m_enumerate) fun _ _ _ _ _ _ us hl => match us, hl with | [_], _ => rfl
  exact ok_law F9 M D1 D3 D4 D5 D6 D7 D8 D0
end
end FF
open PySem PySem.W PyProof.Rows
set_option maxRecDepth 100000 in
set_option maxHeartbeats 0 in
theorem PySem.Challenge.cw_friendfoe_k22_stems_holds : PySem.Challenge.rw_friendfoe_k22_stems.Holds := by
  w_on; o_law; k_head; (case hw => w_witness2)
  k_fill
  refine FF.walk_tabs (l := PySem.Challenge.rw_friendfoe_k22_stems) (n := 63) (k := 3) (x := "_law_script") rfl (by decide) rfl ⟨rfl, by decide, by decide⟩ (fun w h Y => PySem.W.kIn_of Y) ?F
  case F =>
    intro w mg fa h KX G hmg tabs
    refine' FF.law_at KX G hmg ?a0 ?a1 ?a2 ?a3 ?a4 ?a5 ?a6 ?a7 ?a8 ?a9 ?z0 ?z1 ?z2 ?z3 ?z4 ?z5 ?z6 ?z7 ?z8 ?z9 ?z10 ?z11 ?z12 ?z13
    (case a0 => refine' FF.at_mk ?p1 ?p2 ?p3 ?p4; (case p1 => k_is); (case p2 => k_is); (case p3 => k_is); (case p4 => k_is))
    (case a1 => refine' FF.at_mk ?p1 ?p2 ?p3 ?p4; (case p1 => k_is); (case p2 => k_is); (case p3 => k_is); (case p4 => k_is))
    (case a2 => refine' FF.at_mk ?p1 ?p2 ?p3 ?p4; (case p1 => k_is); (case p2 => k_is); (case p3 => k_is); (case p4 => k_is))
    (case a3 => refine' FF.at_mk ?p1 ?p2 ?p3 ?p4; (case p1 => k_is); (case p2 => k_is); (case p3 => k_is); (case p4 => k_is))
    (case a4 => refine' FF.at_mk ?p1 ?p2 ?p3 ?p4; (case p1 => k_is); (case p2 => k_is); (case p3 => k_is); (case p4 => k_is))
    (case a5 => refine' FF.at_mk ?p1 ?p2 ?p3 ?p4; (case p1 => k_is); (case p2 => k_is); (case p3 => k_is); (case p4 => k_is))
    (case a6 => refine' FF.at_mk ?p1 ?p2 ?p3 ?p4; (case p1 => k_is); (case p2 => k_is); (case p3 => k_is); (case p4 => k_is))
    (case a7 => refine' FF.at_mk ?p1 ?p2 ?p3 ?p4; (case p1 => k_is); (case p2 => k_is); (case p3 => k_is); (case p4 => k_is))
    (case a8 => refine' FF.at_mk ?p1 ?p2 ?p3 ?p4; (case p1 => k_is); (case p2 => k_is); (case p3 => k_is); (case p4 => k_is))
    (case a9 => refine' FF.at_mk ?p1 ?p2 ?p3 ?p4; (case p1 => k_is); (case p2 => k_is); (case p3 => k_is); (case p4 => k_is))
    (case z0 => k_is)
    (case z1 => k_is)
    (case z2 => k_is)
    (case z3 => k_is)
    (case z4 => k_is)
    (case z5 => k_is)
    (case z6 => k_is)
    (case z7 => k_is)
    (case z8 => k_is)
    (case z9 => k_is)
    (case z10 => k_is)
    (case z11 => k_is)
    (case z12 => k_is)
    (case z13 => k_is)
