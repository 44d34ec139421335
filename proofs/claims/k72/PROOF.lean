import PyProof.Rows.All
import Wide.All
import OpenK.AllK
import Wide.FinOn
import HandS.ForMost
import HandS.IsInst
import HandS.TupAny
import HandS.TupLe
import HandS.Wide
import HandS.Style
import HandS.SortInts
import HandS.Conv
import HandS.More
import HandS.EndTab
import HandS.EndOwn
import HandS.AnyAll
import HandS.GenOver
import HandS.Evl
import HandS.Walk
import HandS.NoneIn
import HandS.Zip
import HandS.DictComp
import HandS.SetFor
import KE.GoesEnum
import HandS.TupMul
import HandS.Strs
import KE.DataMinMax
import HandS.ForExc
import HandS.ExcIs
import PySem.Challenge.RW_friendfoe_k72_moves_one_by_one
set_option Elab.async false
set_option linter.all false
set_option maxRecDepth 100000
namespace FF
open PySem PySem.Spec PyProof.Rows L2
/-! ### heaps: what is kept -/
/-- all that is tracked, but at d and c, is as it was -/
def Kp (d c : Addr) (H H' : Hp) : Prop := ∀ b o, b ≠ d → b ≠ c → H b = some o → H' b = some o
theorem Kp.refl {d c : Addr} {H : Hp} : Kp d c H H := fun _ _ _ _ h => h
theorem Kp.trans {d c : Addr} {H H1 H2 : Hp} (a : Kp d c H H1) (b : Kp d c H1 H2) : Kp d c H H2 := fun x o h1 h2 h => b x o h1 h2 (a x o h1 h2 h)
theorem Kp.at_d {d c : Addr} {H : Hp} {o : HO} : Kp d c H (upd H d o) := fun b u h1 _ h => by rw [upd_ne h1]; exact h
theorem Kp.at_c {d c : Addr} {H : Hp} {o : HO} : Kp d c H (upd H c o) := fun b u _ h2 h => by rw [upd_ne h2]; exact h
theorem Kp.new {d c p : Addr} {H : Hp} {o : HO} (hp : H p = none) : Kp d c H (upd H p o) := fun b u _ _ h => by rw [upd_ne (ne_of_none h hp)]; exact h
theorem same_new {H : Hp} {p : Addr} {o : HO} (h : H p = none) : Same H (upd H p o) := fun b x e => by
  rw [upd_ne (ne_of_none e h)]
  exact e
theorem Same.kp {d c : Addr} {H H' : Hp} (s : Same H H') : Kp d c H H' := fun b o _ _ h => s b o h
/-! ### defs as they are called -/
def Df (P : Program) (w : World) (K : PySem.W.Frag) (mg : Str → Option Value) (base : Heap) (k : Nat) (x : Str) (ps : List Str) (sp : Sp) : Prop :=
  ∃ (f : Addr) (fd : FuncData), FnOk P w K mg base CX0 k f fd ps sp ∧ mg x = some (.ref f) ∧ PySem.W.keepIn K (.ref f) = true ∧ Binds K fd ps []
/-- built-in names that the module has not taken -/
structure Free (mg : Str → Option Value) : Prop where
  len : mg "len" = none
  int : mg "int" = none
  bool : mg "bool" = none
  str : mg "str" = none
  list : mg "list" = none
  tuple : mg "tuple" = none
  range : mg "range" = none
  isinstance : mg "isinstance" = none
  sum : mg "sum" = none
/-! ### the well -/
structure Well (H : Hp) (d : Addr) (b : Nat) : Prop where
  ex : ∃ (g st : Int) (k : Nat), H d = some (.lst [.int g, .int st, .int k]) ∧ k ≤ b
theorem Well.same {H H' : Hp} {d : Addr} {b : Nat} (h : Well H d b) (s : Same H H') : Well H' d b := by
  obtain ⟨g, st, k, h1, h2⟩ := h
  exact ⟨g, st, k, s _ _ h1, h2⟩
theorem Well.mono {H : Hp} {d : Addr} {b b' : Nat} (h : Well H d b) (s : b ≤ b') : Well H d b' := by
  obtain ⟨g, st, k, h1, h2⟩ := h
  exact ⟨g, st, k, h1, Nat.le_trans h2 s⟩
theorem Well.mut {H : Hp} {d l : Addr} {o : HO} {b : Nat} (D : Well H d b) (h1 : l ≠ d) : Well (upd H l o) d b := by
  obtain ⟨g, st, k, e1, e2⟩ := D
  exact ⟨g, st, k, by rw [upd_ne (Ne.symm h1)]; exact e1, e2⟩
theorem Well.new {H : Hp} {d l : Addr} {o : HO} {b : Nat} (D : Well H d b) (h : H l = none) : Well (upd H l o) d b := D.same (same_new h)
theorem Well.ned {H : Hp} {d l : Addr} {b : Nat} (D : Well H d b) (h : H l = none) : l ≠ d := by
  obtain ⟨g, st, k, e1, e2⟩ := D
  exact (ne_of_none e1 h).symm
theorem mod_rng {a m : Int} (h : 0 < m) : 0 ≤ a % m ∧ a % m < m := ⟨Int.emod_nonneg a (by omega), Int.emod_lt_of_pos a h⟩
/-- a draw below m: any number from 0 on, less than m; one draw more -/
def spDraw : Sp := fun vs H Q _ => ∃ (d : Addr) (b : Nat) (m : Int), vs = [.ref d, .int m] ∧ Well H d b ∧ b < 2 ^ 60 ∧ 0 < m ∧ m.natAbs < 2 ^ 120 ∧
  ∀ v H', 0 ≤ v → v < m → Well H' d (b + 1) → Kp d d H H' → Q (.int v) H'
def topS (i : Nat) : Stmt := PySem.Challenge.pw_friendfoe_k72_moves_one_by_one.main.body.getD i (.Pass ⟨0, 0, 0, 0⟩)
abbrev s_breaks : Stmt := topS 9
abbrev N_breaks : List Str := ["sides", "tie", "one", "other", "kind"]
theorem sc_breaks : FnScope N_breaks ["sides", "tie"] (defScope s_breaks) := ⟨rfl, rfl, rfl, by decide +kernel, rfl, by decide +kernel, by decide +kernel⟩
abbrev s_weight_of : Stmt := topS 11
abbrev N_weight_of : List Str := ["weights", "tie"]
theorem sc_weight_of : FnScope N_weight_of ["weights", "tie"] (defScope s_weight_of) := ⟨rfl, rfl, rfl, by decide +kernel, rfl, by decide +kernel, by decide +kernel⟩
abbrev s_leans : Stmt := topS 14
abbrev N_leans : List Str := ["web", "weights", "sides", "told", "number", "tie", "weight", "lean"]
theorem sc_leans : FnScope N_leans ["web", "weights", "sides"] (defScope s_leans) := ⟨rfl, rfl, rfl, by decide +kernel, rfl, by decide +kernel, by decide +kernel⟩
abbrev s_moved_over : Stmt := topS 15
abbrev N_moved_over : List Str := ["sides", "place"]
theorem sc_moved_over : FnScope N_moved_over ["sides", "place"] (defScope s_moved_over) := ⟨rfl, rfl, rfl, by decide +kernel, rfl, by decide +kernel, by decide +kernel⟩
abbrev s_settled : Stmt := topS 16
abbrev N_settled : List Str := ["web", "weights", "sides", "told", "moved", "place"]
theorem sc_settled : FnScope N_settled ["web", "weights", "sides"] (defScope s_settled) := ⟨rfl, rfl, rfl, by decide +kernel, rfl, by decide +kernel, by decide +kernel⟩
abbrev s_l_well : Stmt := topS 18
abbrev N_l_well : List Str := ["_law_script", "_law_k", "_law_cell", "_law_great"]
theorem sc_l_well : FnScope N_l_well ["_law_script", "_law_k"] (defScope s_l_well) := ⟨rfl, rfl, rfl, by decide +kernel, rfl, by decide +kernel, by decide +kernel⟩
abbrev s_l_draw : Stmt := topS 19
abbrev N_l_draw : List Str := ["_law_well_here", "_law_most", "_law_digit", "_law_number"]
theorem sc_l_draw : FnScope N_l_draw ["_law_well_here", "_law_most"] (defScope s_l_draw) := ⟨rfl, rfl, rfl, by decide +kernel, rfl, by decide +kernel, by decide +kernel⟩
abbrev s_l_web : Stmt := topS 20
abbrev N_l_web : List Str := ["_law_well_here", "_law_great", "_law_many", "_law_ties", "_law_k", "_law_one", "_law_other", "_law_kind"]
theorem sc_l_web : FnScope N_l_web ["_law_well_here"] (defScope s_l_web) := ⟨rfl, rfl, rfl, by decide +kernel, rfl, by decide +kernel, by decide +kernel⟩
abbrev s_l_weights : Stmt := topS 21
abbrev N_l_weights : List Str := ["_law_well_here", "_law_web_here", "_law_found", "_law_tie", "_law_way", "_law_weight_here"]
theorem sc_l_weights : FnScope N_l_weights ["_law_well_here", "_law_web_here"] (defScope s_l_weights) := ⟨rfl, rfl, rfl, by decide +kernel, rfl, by decide +kernel, by decide +kernel⟩
abbrev s_l_weight : Stmt := topS 22
abbrev N_l_weight : List Str := ["_law_weights_here", "_law_tie"]
theorem sc_l_weight : FnScope N_l_weight ["_law_weights_here", "_law_tie"] (defScope s_l_weight) := ⟨rfl, rfl, rfl, by decide +kernel, rfl, by decide +kernel, by decide +kernel⟩
abbrev s_l_sides : Stmt := topS 23
abbrev N_l_sides : List Str := ["_law_well_here", "_law_many", "_law_way", "_law_place"]
theorem sc_l_sides : FnScope N_l_sides ["_law_well_here", "_law_many"] (defScope s_l_sides) := ⟨rfl, rfl, rfl, by decide +kernel, rfl, by decide +kernel, by decide +kernel⟩
abbrev s_l_same : Stmt := topS 24
abbrev N_l_same : List Str := ["_law_found", "_law_due_here", "_law_one", "_law_other"]
theorem sc_l_same : FnScope N_l_same ["_law_found", "_law_due_here"] (defScope s_l_same) := ⟨rfl, rfl, rfl, by decide +kernel, rfl, by decide +kernel, by decide +kernel⟩
abbrev s_l_broken : Stmt := topS 25
abbrev N_l_broken : List Str := ["_law_web_here", "_law_sides_here", "_law_tie", "_law_one", "_law_other", "_law_kind"]
theorem sc_l_broken : FnScope N_l_broken ["_law_web_here", "_law_sides_here", "_law_tie"] (defScope s_l_broken) := ⟨rfl, rfl, rfl, by decide +kernel, rfl, by decide +kernel, by decide +kernel⟩
abbrev s_l_lean : Stmt := topS 26
abbrev N_l_lean : List Str := ["_law_web_here", "_law_weights_here", "_law_sides_here", "_law_place", "_law_found", "_law_tie", "_law_weight_here"]
theorem sc_l_lean : FnScope N_l_lean ["_law_web_here", "_law_weights_here", "_law_sides_here", "_law_place"] (defScope s_l_lean) := ⟨rfl, rfl, rfl, by decide +kernel, rfl, by decide +kernel, by decide +kernel⟩
abbrev s_l_due : Stmt := topS 27
abbrev N_l_due : List Str := ["_law_web_here", "_law_weights_here", "_law_sides_here", "_law_places", "_law_some", "_law_place"]
theorem sc_l_due : FnScope N_l_due ["_law_web_here", "_law_weights_here", "_law_sides_here"] (defScope s_l_due) := ⟨rfl, rfl, rfl, by decide +kernel, rfl, by decide +kernel, by decide +kernel⟩
abbrev s_l_told : Stmt := topS 28
abbrev N_l_told : List Str := ["_law_web_here", "_law_weights_here", "_law_sides_here", "_law_told_here", "_law_some", "e"]
theorem sc_l_told : FnScope N_l_told ["_law_web_here", "_law_weights_here", "_law_sides_here"] (defScope s_l_told) := ⟨rfl, rfl, rfl, by decide +kernel, rfl, by decide +kernel, by decide +kernel⟩
abbrev s_law : Stmt := topS 29
abbrev N_law : List Str := ["_law_script", "_law_k", "_law_well_here", "_law_web_here", "_law_weights_here", "_law_sides_here", "_law_due_here", "_law_some", "_law_found"]
theorem sc_law : FnScope N_law ["_law_script"] (defScope s_law) := ⟨rfl, rfl, rfl, by decide +kernel, rfl, by decide +kernel, by decide +kernel⟩
/-! ### own rules: a list against [] -/
section
variable {X : Cx}
def rEqE (K : PySem.W.Frag) : R2 := fun x y H Q => ∃ (a b : Addr) (xs : List V), x = .ref a ∧ y = .ref b ∧ SqL K H a xs ∧ SqL K H b [] ∧ Q (.bl xs.isEmpty) H
def rNeE (K : PySem.W.Frag) : R2 := fun x y H Q => ∃ (a b : Addr) (xs : List V), x = .ref a ∧ y = .ref b ∧ SqL K H a xs ∧ SqL K H b [] ∧ Q (.bl (!xs.isEmpty)) H
theorem op_eqE (hu : X.A.units < cLine) : OpR X (compareOp .Eq) (rEqE X.K) := by
  intro pins s σ H x y v u Q I rx ry h
  obtain ⟨a, b, xs, rfl, rfl, ha, hb, q⟩ := h
  obtain rfl : v = Value.ref a := rx
  obtain rfl : u = Value.ref b := ry
  obtain ⟨its, r1, p1, _⟩ := I.list ha
  obtain ⟨its2, r2, p2, _⟩ := I.list hb
  cases r2
  cases xs with
  | nil =>
    cases r1
    exact SeqAt.eq_listAt (e := fun _ => true) p1.isList p2.isList rfl hu (fun j h1 _ => absurd h1 (by simp)) ⟨.bl true, H, I, rfl, q⟩
  | cons z zs =>
    cases r1 with
    | cons r t => exact SeqAt.eq_list_lengthsAt p1.isList p2.isList (by simp) hu ⟨.bl false, H, I, rfl, q⟩
theorem op_neE (hu : X.A.units < cLine) : OpR X (compareOp .NotEq) (rNeE X.K) := by
  intro pins s σ H x y v u Q I rx ry h
  obtain ⟨a, b, xs, rfl, rfl, ha, hb, q⟩ := h
  obtain rfl : v = Value.ref a := rx
  obtain rfl : u = Value.ref b := ry
  obtain ⟨its, r1, p1, _⟩ := I.list ha
  obtain ⟨its2, r2, p2, _⟩ := I.list hb
  cases r2
  cases xs with
  | nil =>
    cases r1
    exact SeqAt.RcNeAt.lists (e := fun _ => true) p1.isList p2.isList rfl hu (fun j h1 _ => absurd h1 (by simp)) _ _ _ _ ⟨.bl false, H, I, rfl, q⟩
  | cons z zs =>
    cases r1 with
    | cons r t => exact SeqAt.RcNeAt.lists_lengths p1.isList p2.isList (by simp) hu _ _ _ _ ⟨.bl true, H, I, rfl, q⟩
end
section
variable {P : Program} {w : World} {K : PySem.W.Frag} {mg : Str → Option Value} {base : Heap}
/-! ### webs -/
structure Tie where
  one : Int
  other : Int
  foe : Bool
def kindS : Bool → Str
  | true => "foe"
  | false => "friend"
def TieV (H : Hp) (v : V) (t : Tie) : Prop := ∃ a, v = .ref a ∧ H a = some (.tup [.int t.one, .int t.other, .str (kindS t.foe)])
def TieOk (n : Int) (t : Tie) : Prop := 0 ≤ t.one ∧ t.one < n ∧ 0 ≤ t.other ∧ t.other < n ∧ t.one ≠ t.other
def WebAt (H : Hp) (v : V) (n : Int) (ts : List Tie) : Prop := ∃ a b vs, v = .ref a ∧ H a = some (.tup [.int n, .ref b]) ∧ H b = some (.tup vs) ∧ Paired (TieV H) vs ts
structure WebOk (n : Int) (ts : List Tie) : Prop where
  lo : 1 ≤ n
  hi : n ≤ 40
  few : ts.length ≤ 120
  ok : ∀ t ∈ ts, TieOk n t
/-- tuples stay -/
def Tk (H H' : Hp) : Prop := ∀ b xs, H b = some (.tup xs) → H' b = some (.tup xs)
theorem Tk.trans {H H1 H2 : Hp} (a : Tk H H1) (b : Tk H1 H2) : Tk H H2 := fun x xs h => b x xs (a x xs h)
theorem Same.tk {H H' : Hp} (s : Same H H') : Tk H H' := fun b xs h => s b _ h
theorem tk_lst {H : Hp} {l : Addr} {xs ys : List V} (h : H l = some (.lst xs)) : Tk H (upd H l (.lst ys)) := fun b zs e => by
  rw [upd_ne (ne_of e h (by intro z; cases z))]
  exact e
theorem TieV.tk {H H' : Hp} (k : Tk H H') {v : V} {t : Tie} (h : TieV H v t) : TieV H' v t := by
  obtain ⟨a, rfl, e⟩ := h
  exact ⟨a, rfl, k _ _ e⟩
theorem ties_tk {H H' : Hp} (k : Tk H H') {vs : List V} {ts : List Tie} (h : Paired (TieV H) vs ts) : Paired (TieV H') vs ts := Paired.mono (fun _ _ x => x.tk k) h
theorem WebAt.tk {H H' : Hp} (k : Tk H H') {v : V} {n : Int} {ts : List Tie} (h : WebAt H v n ts) : WebAt H' v n ts := by
  obtain ⟨a, b, vs, rfl, h1, h2, h3⟩ := h
  exact ⟨a, b, vs, rfl, k _ _ h1, k _ _ h2, ties_tk k h3⟩
theorem Kp.tk {d : Addr} {b : Nat} {H H' : Hp} (k : Kp d d H H') (D : Well H d b) : Tk H H' := fun c xs e => by
  obtain ⟨g, st, n, h1, h2⟩ := D
  have ne := ne_of e h1 (by intro z; cases z)
  exact k c _ ne ne e
theorem Kp.mut {d c l : Addr} {H H' : Hp} {o : HO} (k : Kp d c H H') (h : H l = none) : Kp d c H (upd H' l o) := fun b u h1 h2 e => by
  rw [upd_ne (ne_of_none e h)]
  exact k b u h1 h2 e
theorem Paired.at {α β : Type} {F : α → β → Prop} : ∀ {l : List α} {m : List β} {i : Nat} {a : α}, Paired F l m → l[i]? = some a → ∃ b, m[i]? = some b ∧ F a b
  | _, _, _, _, .nil, e => by simp at e
  | _, _, 0, _, .cons r _, e => by simp at e; subst e; exact ⟨_, rfl, r⟩
  | _, _, i + 1, a, .cons _ t, e => by
    obtain ⟨u, h1, h2⟩ := Paired.at (i := i) (a := a) t (by simpa using e)
    exact ⟨u, by simpa using h1, h2⟩
theorem Paired.at' {α β : Type} {F : α → β → Prop} : ∀ {l : List α} {m : List β} {i : Nat} {b : β}, Paired F l m → m[i]? = some b → ∃ a, l[i]? = some a ∧ F a b
  | _, _, _, _, .nil, e => by simp at e
  | _, _, 0, _, .cons r _, e => by simp at e; subst e; exact ⟨_, rfl, r⟩
  | _, _, i + 1, b, .cons _ t, e => by
    obtain ⟨u, h1, h2⟩ := Paired.at' (i := i) (b := b) t (by simpa using e)
    exact ⟨u, by simpa using h1, h2⟩
theorem getI {α : Type} {xs : List α} {i : Int} (h0 : 0 ≤ i) (h1 : i < (xs.length : Int)) : ∃ v, atI xs i = some v ∧ xs[i.toNat]? = some v := by
  obtain ⟨j, rfl⟩ : ∃ j : Nat, i = (j : Int) := ⟨i.toNat, by omega⟩
  have h2 : j < xs.length := by omega
  exact ⟨xs[j], atI_nat (List.getElem?_eq_getElem h2), by rw [Int.toNat_natCast]; exact List.getElem?_eq_getElem h2⟩
theorem other_ne {n a b : Int} (h0 : 0 ≤ a) (h1 : a < n) (g0 : 0 ≤ b) (g1 : b < n - 1) : a ≠ (a + 1 + b) % n := by
  by_cases h : a + 1 + b < n
  · rw [Int.emod_eq_of_lt (by omega) h]
    omega
  · have e : a + 1 + b = (a + 1 + b - n) + 1 * n := by omega
    rw [e, Int.add_mul_emod_self_right, Int.emod_eq_of_lt (by omega) (by omega)]
    omega
theorem pick2 {α : Type} (a b : α) (k : Bool) : atI [a, b] (if k then 1 else 0) = some (if k then b else a) := by
  cases k <;> rfl
def spWeb : Sp := fun vs H Q _ => ∃ (d : Addr) (b : Nat), vs = [.ref d] ∧ Well H d b ∧ b < 2 ^ 50 ∧
  ∀ v n ts H', WebAt H' v n ts → WebOk n ts → Well H' d (b + 1000) → Kp d d H H' → Q v H'
theorem Kp.free {d c l : Addr} {H H' : Hp} (k : Kp d c H H') (h : H' l = none) (h1 : l ≠ d) (h2 : l ≠ c) : H l = none := by
  cases e : H l with
  | none => rfl
  | some o =>
    rw [k l o h1 h2 e] at h
    cases h
theorem atI_of {xs : List V} {i : Int} {v : V} (h0 : 0 ≤ i) (e : xs[i.toNat]? = some v) : atI xs i = some v := by
  obtain ⟨j, rfl⟩ : ∃ j : Nat, i = (j : Int) := ⟨i.toNat, by omega⟩
  exact atI_nat (by rw [Int.toNat_natCast] at e; exact e)
theorem atI_ints {xs : List Int} {i : Int} (h0 : 0 ≤ i) (h1 : i < xs.length) : ∃ x ∈ xs, xs[i.toNat]? = some x ∧ atI (xs.map V.int) i = some (.int x) := by
  have h : i.toNat < xs.length := by omega
  exact ⟨xs[i.toNat], List.getElem_mem h, List.getElem?_eq_getElem h, atI_of h0 (by rw [List.getElem?_map, List.getElem?_eq_getElem h]; rfl)⟩
theorem at0 {α : Type} (x : α) (xs : List α) : atI (x :: xs) 0 = some x := atI_nat (j := 0) rfl
theorem ix0 (n : Nat) : ixN (n + 1) 0 = some 0 := by
  unfold ixN
  rw [if_pos (by decide), if_pos (by omega)]
  rfl
/-! ### a draw -/
theorem ok_l_draw {f : Addr} {fd : FuncData} (F : Fun K "_law_draw" "_law_draw" s_l_draw f fd) : FnOk P w K mg base CX0 1 f fd ["_law_well_here", "_law_most"] spDraw := by
  refine F.ok sc_l_draw (fun vs H Q E h => ?_) (fun cdv A outer s H vs Q E hr h => ?_)
  · obtain ⟨d, b, m, rfl, _⟩ := h
    rfl
  · obtain ⟨d, b, m, rfl, hD, hB, hm, hb, q⟩ := h
    obtain ⟨g, st, n, hd, hn⟩ := hD
    refine ⟨_, (pss_cons (ps_if (pt_cmpR op_gt (pe_ix ix_list (pv 0) pe_int (fun _ _ => rfl)) pe_int (nomark _))
        (pss_cons (ps_set (i := 2) sc_l_draw.nd rfl (.inl rfl) (pe_op op_mod (pe_ix ix_list (pv 0) pe_int (fun _ _ => rfl)) (pv 1)))
        (pss_cons (ps_asg (pe_op op_fdivW (pe_ix ix_list (pv 0) pe_int (fun _ _ => rfl)) (pv 1)) (pg_sub (pv 0) pe_int set_list))
        (pss_one (ps_ret (pv 2)))))
        pss_nil)
      (pss_cons (ps_asg (pe_op op_add (pe_ix ix_list (pv 0) pe_int (fun _ _ => rfl)) pe_int) (pg_sub (pv 0) pe_int set_list))
      (Evl.pss_cut (ps_set (i := 3) sc_l_draw.nd rfl (.inl rfl) (pe_op op_mod (pe_op op_mul (pe_op op_add (pe_ix ix_list (pv 0) pe_int (fun _ _ => rfl)) (pe_op op_mul (pe_op op_mul pe_int (pe_ix ix_list (pv 0) pe_int (fun _ _ => rfl))) (pe_ix ix_list (pv 0) pe_int (fun _ _ => rfl)))) pe_int) pe_int))
      (Evl.pss_cut (ps_set (i := 3) sc_l_draw.nd rfl (.inl rfl) (pe_op op_mod (pe_op op_add (pe_op op_add (pe_op op_mul (pv 3) (pv 3)) (pe_op op_mul pe_int (pv 3))) pe_int) pe_int))
      (pss_one (ps_ret (pe_op op_mod (pe_op op_fdiv (pe_op op_mod (pe_op op_add (pe_op op_mul (pv 3) (pv 3)) pe_int) pe_int) pe_int) (pv 1)))))))), ?_⟩
    refine ⟨.ref d, rfl, d, _, 0, .int g, rfl, rfl, SqL.of hd, rfl, g, 0, rfl, rfl, _, rfl, ite2 (fun _ => ?_) (fun _ => ?_)⟩
    · refine ⟨.ref d, rfl, d, _, 0, .int g, rfl, rfl, SqL.of hd, rfl, .int m, rfl, g, m, rfl, rfl, hm, ?_⟩
      refine ⟨.ref d, rfl, d, _, 0, .int g, rfl, rfl, SqL.of hd, rfl, .int m, rfl, g, m, rfl, rfl, wide_div hm hb (by decide) (by decide), .ref d, rfl, d, _, 0, 0, rfl, rfl, hd, rfl, ?_⟩
      exact ⟨.int (g % m), rfl, q _ _ (mod_rng hm).1 (mod_rng hm).2 ⟨g / m, st, n, by rw [upd_same]; rfl, by omega⟩ Kp.at_d⟩
    · refine ⟨.ref d, rfl, d, _, 2, .int n, rfl, rfl, SqL.of hd, rfl, n, 1, rfl, rfl, .ref d, rfl, d, _, 2, 2, rfl, rfl, hd, rfl, ?_⟩
      have hd2 : (upd H d (.lst ([V.int g, V.int st, V.int n].set 2 (.int (n + 1))))) d = some (.lst [.int g, .int st, .int ((n + 1 : Nat) : Int)]) := by rw [upd_same]; rfl
      have k2 : Kp d d H (upd H d (.lst ([V.int g, V.int st, V.int n].set 2 (.int (n + 1))))) := Kp.at_d
      generalize upd H d (.lst ([V.int g, V.int st, V.int n].set 2 (.int (n + 1)))) = H2 at hd2 k2
      refine ⟨fun σ' H5 => ∃ N : Int, σ' = [some (.ref d), some (.int m), none, some (.int N)] ∧ 0 ≤ N ∧ N < 2147483647 ∧ H5 = H2, ?_, ?_⟩
      · exact ⟨.ref d, rfl, d, _, 1, .int st, rfl, rfl, SqL.of hd2, rfl, .ref d, rfl, d, _, 2, _, rfl, rfl, SqL.of hd2, rfl, 7919, _, rfl, rfl, .inl ⟨by decide, by decide⟩, .ref d, rfl, d, _, 2, _, rfl, rfl, SqL.of hd2, rfl, _, _, rfl, rfl, .inr ⟨by omega, by omega⟩, _, _, rfl, rfl, _, 48271, rfl, rfl, .inr ⟨by decide, by decide⟩, _, 2147483647, rfl, rfl, show (0 : Int) < 2147483647 by decide, _, rfl, (mod_rng (by decide)).1, (mod_rng (by decide)).2, rfl⟩
      rintro σ' H5 ⟨N, rfl, hN0, hN1, rfl⟩
      refine ⟨fun σ' H6 => ∃ M : Int, σ' = [some (.ref d), some (.int m), none, some (.int M)] ∧ 0 ≤ M ∧ M < 2147483629 ∧ H6 = H5, ?_, ?_⟩
      · exact ⟨.int N, rfl, .int N, rfl, N, N, rfl, rfl, .inl ⟨by omega, by omega⟩, .int N, rfl, 69621, N, rfl, rfl, .inl ⟨by decide, by decide⟩, _, _, rfl, rfl, _, 7, rfl, rfl, _, 2147483629, rfl, rfl, show (0 : Int) < 2147483629 by decide, _, rfl, (mod_rng (by decide)).1, (mod_rng (by decide)).2, rfl⟩
      rintro σ' H6 ⟨M, rfl, hM0, hM1, rfl⟩
      refine ⟨.int M, rfl, .int M, rfl, M, M, rfl, rfl, .inl ⟨by omega, by omega⟩, _, 16807, rfl, rfl, _, 2147483587, rfl, rfl, show (0 : Int) < 2147483587 by decide, _, 64, rfl, rfl, ⟨by decide, by decide⟩, .int m, rfl, _, m, rfl, rfl, hm, ?_⟩
      exact q _ _ (mod_rng hm).1 (mod_rng hm).2 ⟨g, st, n + 1, hd2, by omega⟩ k2
/-! ### the well is laid -/
theorem cutV_len (xs : List V) : (cutV xs none (some 63)).length ≤ xs.length := by
  unfold cutV
  rw [List.length_take, List.length_drop]
  omega
def spWell (K : PySem.W.Frag) : Sp := fun vs H Q _ => ∃ (a : Addr) (ns : List Int) (k : Nat), vs = [.ref a, .int k] ∧ SqL K H a (ns.map V.int) ∧ k < 1000 ∧
  ∀ d H', Same H H' → H d = none → Well H' d 3 → Q (.ref d) H'
theorem ok_l_well {f : Addr} {fd : FuncData} (F : Fun K "_law_well" "_law_well" s_l_well f fd) (M : Free mg) : FnOk P w K mg base CX0 1 f fd ["_law_script", "_law_k"] (spWell K) := by
  refine F.ok sc_l_well (fun vs H Q E h => ?_) (fun cdv A outer s H vs Q E hr h => ?_)
  · obtain ⟨a, ns, k, rfl, _⟩ := h
    rfl
  · obtain ⟨a, ns, k, rfl, hS, hk, q⟩ := h
    refine ⟨_, (pss_cons (ps_set (i := 2) sc_l_well.nd rfl (.inl rfl) pe_int)
      (Evl.pss_cut (ps_if (pt_cmpR op_lt (pv 1) (pe_callB call_len_seq (by rfl) M.len PySem.boot_len (pa_cons (pe_slice sl_list (pv 0) po_none (po_some pe_int)) pa_nil)) (nomark _))
        (pss_one (ps_set (i := 2) sc_l_well.nd rfl (.inl rfl) (pe_ix ix_list (pv 0) (pv 1) (fun _ _ => rfl))))
        pss_nil)
      (pss_cons (ps_set (i := 3) sc_l_well.nd rfl (.inl rfl) pe_int)
      (Evl.pss_cut (ps_if (pt_cmpR op_ge (pv 2) (pe_op op_pow pe_int pe_int) (nomark _))
        (pss_one (ps_set (i := 3) sc_l_well.nd rfl (.inl rfl) (pv 2)))
        pss_nil)
      (pss_one (ps_ret (pe_lst (pa_cons (pv 3) (pa_cons (pe_op op_mod (pe_op op_add (pe_op op_add (pv 2) (pe_op op_mul (pe_op op_mul pe_int (pv 1)) (pv 1))) pe_int) pe_int) (pa_cons pe_int pa_nil)))))))))), ?_⟩
    refine ⟨fun σ' H' => ∃ x : Int, σ' = [some (.ref a), some (.int k), some (.int x), none] ∧ Same H H', ?_, ?_⟩
    · refine ⟨.int k, rfl, .ref a, rfl, 63, rfl, a, _, rfl, hS, fun p np => ⟨p, _, rfl, .inl (SqL.of upd_same), k, _, rfl, rfl, _, rfl, ite2 (fun e => ?_) (fun e => ?_)⟩⟩
      · have hlt := of_decide_eq_true e
        have h2 := cutV_len (ns.map V.int)
        rw [List.length_map] at h2
        obtain ⟨x, _, _, hx⟩ := atI_ints (xs := ns) (i := k) (by omega) (by omega)
        exact ⟨.ref a, rfl, .int k, rfl, a, _, k, _, rfl, rfl, (same_new np).seq hS, hx, x, rfl, same_new np⟩
      · exact ⟨0, rfl, same_new np⟩
    rintro σ' H1 ⟨x, rfl, s1⟩
    refine ⟨fun σ' H' => ∃ y : Int, σ' = [some (.ref a), some (.int k), some (.int x), some (.int y)] ∧ H' = H1, ?_, ?_⟩
    · refine ⟨.int x, rfl, 10, 18, rfl, rfl, ⟨by decide, by decide, by decide⟩, x, _, rfl, rfl, _, rfl, ite2 (fun _ => ?_) (fun _ => ?_)⟩
      · exact ⟨.int x, rfl, x, rfl, rfl⟩
      · exact ⟨0, rfl, rfl⟩
    rintro σ' H2 ⟨y, rfl, rfl⟩
    refine ⟨.int y, rfl, .int x, rfl, .int k, rfl, 7919, k, rfl, rfl, .inl ⟨by decide, by decide⟩, .int k, rfl, _, k, rfl, rfl, .inr ⟨by omega, by omega⟩, _, _, rfl, rfl, _, 48271, rfl, rfl, _, 2147483629, rfl, rfl, show (0 : Int) < 2147483629 by decide, by show 3 ≤ sizeLine; decide, fun d nd => ?_⟩
    exact q d _ (s1.trans (same_new nd)) (s1.free nd) ⟨y, _, 3, upd_same, Nat.le_refl _⟩
theorem ok_l_web {f : Addr} {fd : FuncData} (F : Fun K "_law_web" "_law_web" s_l_web f fd) (M : Free mg) (Dd : Df P w K mg base 1 "_law_draw" ["_law_well_here", "_law_most"] spDraw) : FnOk P w K mg base CX0 2 f fd ["_law_well_here"] spWeb := by
  obtain ⟨fD, fdD, GD, gD, kD, bD⟩ := Dd
  refine F.ok sc_l_web (fun vs H Q E h => ?_) (fun cdv A outer s H vs Q E hr h => ?_)
  · obtain ⟨d, b, rfl, _⟩ := h
    rfl
  · obtain ⟨d, b, rfl, hD, hB, q⟩ := h
    refine ⟨_, (Evl.pss_cut (ps_set (i := 1) sc_l_web.nd rfl (.inl rfl) (pe_callTy call_int1 (by rfl) M.int (by decide +kernel) (pa_cons (pe_cmpR op_eq (pe_call GD hr (by rfl) gD kD bD .nil pass0 (pa_cons (pv 0) (pa_cons pe_int pa_nil))) pe_int (nomark _)) pa_nil)))
      (Evl.pss_cut (ps_set (i := 2) sc_l_web.nd rfl (.inl rfl) (pe_op op_add pe_int (pe_call GD hr (by rfl) gD kD bD .nil pass0 (pa_cons (pv 0) (pa_cons (pe_ix ix_list (pe_lst (pa_cons pe_int (pa_cons pe_int pa_nil))) (pv 1) (fun _ _ => rfl)) pa_nil)))))
      (pss_cons (ps_set (i := 3) sc_l_web.nd rfl (.inl rfl) (pe_lst pa_nil))
      (pss_cons (ps_for PassesOwn.never rfl (pi_range1 (by rfl) M.range (pa_cons (pe_op op_mul (pe_call GD hr (by rfl) gD kD bD .nil pass0 (pa_cons (pv 0) (pa_cons (pe_ix ix_list (pe_lst (pa_cons pe_int (pa_cons pe_int pa_nil))) (pv 1) (fun _ _ => rfl)) pa_nil))) (pe_callTy call_int1 (by rfl) M.int (by decide +kernel) (pa_cons (pe_cmpR op_gt (pv 2) pe_int (nomark _)) pa_nil))) pa_nil)) (pg_name (i := 4) sc_l_web.nd rfl (.inl rfl))
        (pss_cons (ps_set (i := 5) sc_l_web.nd rfl (.inl rfl) (pe_call GD hr (by rfl) gD kD bD .nil pass0 (pa_cons (pv 0) (pa_cons (pv 2) pa_nil))))
        (pss_cons (ps_set (i := 6) sc_l_web.nd rfl (.inl rfl) (pe_op op_mod (pe_op op_add (pe_op op_add (pv 5) pe_int) (pe_call GD hr (by rfl) gD kD bD .nil pass0 (pa_cons (pv 0) (pa_cons (pe_op op_sub (pv 2) pe_int) pa_nil)))) (pv 2)))
        (Evl.pss_cut (ps_if (PW.pt (pw_and (pt_cmpR (op_neE hr.units0) (pv 3) (pe_lst pa_nil) (nomark _)) (pw_and1 (pt_cmpR op_eq (pe_call GD hr (by rfl) gD kD bD .nil pass0 (pa_cons (pv 0) (pa_cons pe_int pa_nil))) pe_int (nomark _)))))
          (pss_cons (ps_asg (pe_ix ix_list (pv 3) (pe_call GD hr (by rfl) gD kD bD .nil pass0 (pa_cons (pv 0) (pa_cons (pe_callB call_len_seq (by rfl) M.len PySem.boot_len (pa_cons (pv 3) pa_nil)) pa_nil))) (fun _ _ => rfl)) (pg_tup rfl (pgs_cons (pg_name (i := 5) sc_l_web.nd rfl (.inl rfl)) (pgs_cons (pg_name (i := 6) sc_l_web.nd rfl (.inl rfl)) (pgs_cons (pg_name (i := 7) sc_l_web.nd rfl (.inl rfl)) pgs_nil)))))
          (pss_one (ps_if (pt_cmpR op_eq (pe_call GD hr (by rfl) gD kD bD .nil pass0 (pa_cons (pv 0) (pa_cons pe_int pa_nil))) pe_int (nomark _))
            (pss_one (ps_par (i := 5) (j := 6) rfl sc_l_web.nd rfl rfl (by decide) rfl rfl (pa_cons (pv 6) (pa_cons (pv 5) pa_nil)) rfl))
            pss_nil)))
          pss_nil)
        (pss_one (ps_expr (pe_bm PySem.F.plainAttrs_list PySem.F.slot_list_append PySem.F.type_list_append mt_append (pv 3) (pa_cons (pe_tup (pa_cons (pv 5) (pa_cons (pv 6) (pa_cons (pe_ix ix_list (pe_lst (pa_cons pe_str (pa_cons pe_str pa_nil))) (pe_call GD hr (by rfl) gD kD bD .nil pass0 (pa_cons (pv 0) (pa_cons pe_int pa_nil))) (fun _ _ => rfl)) pa_nil)))) pa_nil))))))))
      (pss_one (ps_ret (pe_tup (pa_cons (pv 2) (pa_cons (pe_callTy call_tuple_of (by rfl) M.tuple (by decide +kernel) (pa_cons (pv 3) pa_nil)) pa_nil))))))))), ?_⟩
    -- great
    refine ⟨fun σ' H' => ∃ g : Bool, σ' = [some (.ref d), some (.int (if g = true then 1 else 0)), none, none, none, none, none, none] ∧ Well H' d (b + 1) ∧ Kp d d H H', ⟨.ref d, rfl, d, b, 8, rfl, hD, by omega, by decide, by decide, fun v1 H1 a1 b1 D1 K1 => ⟨rfl, .inr ⟨_, rfl, _, rfl, D1, K1⟩⟩⟩, ?_⟩
    rintro σ' H1 ⟨g, rfl, D1, K1⟩
    -- many
    refine ⟨fun σ' H' => ∃ n : Int, σ' = [some (.ref d), some (.int (if g = true then 1 else 0)), some (.int n), none, none, none, none, none] ∧ 1 ≤ n ∧ n ≤ 40 ∧ Well H' d (b + 2) ∧ Kp d d H H', ?_, ?_⟩
    · refine ⟨.ref d, rfl, by show 2 ≤ sizeLine; decide, fun p np => ?_⟩
      cases g
      · exact ⟨.int 0, rfl, p, _, 0, .int 6, rfl, rfl, SqL.of upd_same, rfl, d, b + 1, 6, rfl, D1.new np, by omega, by decide, by decide, fun v H2 a b D2 K2 => ⟨1, v, rfl, rfl, _, rfl, by omega, by omega, D2, (K1.trans (Kp.new np)).trans K2⟩⟩
      · exact ⟨.int 1, rfl, p, _, 1, .int 40, rfl, rfl, SqL.of upd_same, rfl, d, b + 1, 40, rfl, D1.new np, by omega, by decide, by decide, fun v H2 a b D2 K2 => ⟨1, v, rfl, rfl, _, rfl, by omega, by omega, D2, (K1.trans (Kp.new np)).trans K2⟩⟩
    clear D1 K1 H1
    rintro σ' H1 ⟨n, rfl, hn1, hn2, D1, K1⟩
    obtain ⟨k, rfl⟩ : ∃ k : Nat, n = k := ⟨n.toNat, by omega⟩
    -- ties = []
    refine ⟨Nat.zero_le _, fun L nL => ?_⟩
    have hLd := D1.ned nL
    have nL0 := K1.free nL hLd hLd
    have s1 : Same H1 (upd H1 L (.lst [])) := same_new nL
    have hL1 : (upd H1 L (.lst [])) L = some (.lst []) := upd_same
    have K1' : Kp d d H (upd H1 L (.lst [])) := K1.trans (Kp.new nL)
    have D1' := D1.same s1
    generalize upd H1 L (.lst []) = H2 at s1 hL1 K1' D1'
    -- how many
    refine ⟨.ref d, rfl, by show 2 ≤ sizeLine; decide, fun p np => ?_⟩
    have cnt : ∃ m : Int, atI [V.int 13, V.int 121] (if g = true then 1 else 0) = some (.int m) ∧ 0 < m ∧ m ≤ 121 := by
      cases g
      · exact ⟨13, rfl, by decide, by decide⟩
      · exact ⟨121, rfl, by decide, by decide⟩
    obtain ⟨m, em, hm0, hm1⟩ := cnt
    refine ⟨_, rfl, p, _, _, _, rfl, rfl, SqL.of upd_same, em, d, b + 2, m, rfl, D1'.new np, by omega, hm0, by omega, fun v H3 a3 b3 D3 K3 => ?_⟩
    refine ⟨.int k, rfl, k, 1, rfl, rfl, .inr ⟨_, rfl, v, _, rfl, rfl, .inl ⟨by omega, by omega⟩, _, rfl, ?_, ?_, ?_⟩⟩
    · by_cases hb : decide ((1 : Int) < k) = true
      · rw [hb]
        show -(2 ^ 62) ≤ v * 1
        omega
      · rw [Bool.not_eq_true] at hb
        rw [hb]
        show -(2 ^ 62) ≤ v * 0
        omega
    · by_cases hb : decide ((1 : Int) < k) = true
      · rw [hb]
        show v * 1 < 2 ^ 62
        omega
      · rw [Bool.not_eq_true] at hb
        rw [hb]
        show v * 0 < 2 ^ 62
        omega
    generalize hN : (v * (if decide ((1 : Int) < k) = true then 1 else 0)).toNat = N
    have hN2 : N ≤ 120 ∧ (0 < N → (1 : Int) < k) := by
      by_cases hb : (1 : Int) < k
      · rw [if_pos (decide_eq_true hb)] at hN
        exact ⟨by omega, fun _ => hb⟩
      · rw [if_neg (by simpa using hb)] at hN
        exact ⟨by omega, fun z => by omega⟩
    have K3' : Kp d d H H3 := (K1'.trans (Kp.new np)).trans K3
    have hL3 : H3 L = some (.lst []) := K3 _ _ hLd hLd (same_new np _ _ hL1)
    refine for_range (lo := 0) (n := N) (fun i σ' H' => ∃ (y4 y5 y6 y7 : Option V) (vs : List V) (ts : List Tie), σ' = [some (.ref d), some (.int (if g = true then 1 else 0)), some (.int k), some (.ref L), y4, y5, y6, y7] ∧ H' L = some (.lst vs) ∧ Paired (TieV H') vs ts ∧ ts.length = i ∧ (∀ t ∈ ts, TieOk k t) ∧ Well H' d (b + 3 + 6 * i) ∧ Kp d d H H') ?_ ?_ ?_
    · exact ⟨none, none, none, none, [], [], rfl, hL3, .nil, rfl, fun t ht => by simp at ht, D3, K3'⟩
    · clear K3' hL3 D3 K3
      rintro i σ' H4 hi ⟨y4, y5, y6, y7, vs, ts, rfl, hL, hP, hlen, hok, D4, K4⟩
      have hn := hN2.2 (by omega)
      refine ⟨.ref d, rfl, .int k, rfl, d, b + 3 + 6 * i, k, rfl, D4, by omega, by omega, by omega, fun v1 H5 a1 b1 D5 K5 => ?_⟩
      refine ⟨.int v1, rfl, v1, 1, rfl, rfl, .ref d, rfl, .int k, rfl, k, 1, rfl, rfl, d, b + 3 + 6 * i + 1, k - 1, rfl, D5, by omega, by omega, by omega, fun v2 H6 a2 b2 D6 K6 => ⟨v1 + 1, v2, rfl, rfl, .int k, rfl, _, k, rfl, rfl, show (0 : Int) < k by omega, ?_⟩⟩
      have hL6 : H6 L = some (.lst vs) := K6 _ _ hLd hLd (K5 _ _ hLd hLd hL)
      have hP6 : Paired (TieV H6) vs ts := ties_tk ((K5.tk D4).trans (K6.tk D5)) hP
      have K46 : Kp d d H H6 := (K4.trans K5).trans K6
      -- as one ahead, either way about
      refine ⟨fun σ' H' => ∃ (y4 y7 : Option V) (t' : Tie), σ' = [some (.ref d), some (.int (if g = true then 1 else 0)), some (.int k), some (.ref L), y4, some (.int t'.one), some (.int t'.other), y7] ∧ TieOk k t' ∧ H' L = some (.lst vs) ∧ Paired (TieV H') vs ts ∧ Well H' d (b + 3 + 6 * i + 5) ∧ Kp d d H H', ?_, ?_⟩
      · have ok1 : TieOk k ⟨v1, (v1 + 1 + v2) % k, false⟩ := ⟨a1, b1, (mod_rng (by omega)).1, (mod_rng (by omega)).2, other_ne a1 b1 a2 b2⟩
        refine ⟨.ref L, rfl, Nat.zero_le _, fun p np => ⟨L, p, vs, rfl, rfl, SqL.of (same_new np _ _ hL6), SqL.of upd_same, _, rfl, ?_⟩⟩
        by_cases hvs : vs = []
        · subst hvs
          exact ⟨_, _, ⟨v1, (v1 + 1 + v2) % k, false⟩, rfl, ok1, same_new np _ _ hL6, ties_tk (Same.tk (same_new np)) hP6, (D6.new np).mono (by omega), K46.trans (Kp.new np)⟩
        · have hpos : 0 < vs.length := List.length_pos_iff.mpr hvs
          have hb : (!vs.isEmpty) = true := by
            cases vs with
            | nil => exact absurd rfl hvs
            | cons z zs => rfl
          rw [hb]
          refine ⟨.ref d, rfl, d, _, 4, rfl, D6.new np, by omega, by decide, by decide, fun v3 H7 a3 b3 D7 K7 => ⟨rfl, _, rfl, ?_⟩⟩
          have hL7 : H7 L = some (.lst vs) := K7 _ _ hLd hLd (same_new np _ _ hL6)
          have hP7 : Paired (TieV H7) vs ts := ties_tk (K7.tk (D6.new np)) (ties_tk (Same.tk (same_new np)) hP6)
          have K17 : Kp d d H H7 := (K46.trans (Kp.new np)).trans K7
          refine ite2 (fun _ => ?_) (fun _ => ?_)
          · have hlv : vs.length = ts.length := Paired.length hP7
            refine ⟨.ref L, rfl, .ref d, rfl, .ref L, rfl, L, vs, rfl, .inl (SqL.of hL7), d, _, vs.length, rfl, D7, by omega, by omega, by omega, fun v4 H8 a4 b4 D8 K8 => ?_⟩
            have hL8 : H8 L = some (.lst vs) := K8 _ _ hLd hLd hL7
            have hP8 : Paired (TieV H8) vs ts := ties_tk (K8.tk D7) hP7
            obtain ⟨v, e1, e2⟩ := getI a4 b4
            obtain ⟨t', e3, a, rfl, e4⟩ := Paired.at hP8 e2
            have okt : TieOk k t' := hok t' (List.mem_of_getElem? e3)
            refine ⟨L, vs, v4, _, rfl, rfl, SqL.of hL8, e1, a, _, rfl, SqT.of e4, rfl, _, _, rfl, _, _, rfl, _, _, rfl, rfl, ?_⟩
            refine ⟨.ref d, rfl, d, _, 2, rfl, D8, by omega, by decide, by decide, fun v5 H9 a5 b5 D9 K9 => ⟨rfl, _, rfl, ?_⟩⟩
            have hL9 : H9 L = some (.lst vs) := K9 _ _ hLd hLd hL8
            have hP9 : Paired (TieV H9) vs ts := ties_tk (K9.tk D8) hP8
            have K19 : Kp d d H H9 := (K17.trans K8).trans K9
            refine ite2 (fun _ => ?_) (fun _ => ?_)
            · exact ⟨.int t'.other, rfl, .int t'.one, rfl, _, _, rfl, _, _, ⟨t'.other, t'.one, false⟩, rfl, ⟨okt.2.2.1, okt.2.2.2.1, okt.1, okt.2.1, Ne.symm okt.2.2.2.2⟩, hL9, hP9, D9, K19⟩
            · exact ⟨_, _, t', rfl, okt, hL9, hP9, D9, K19⟩
          · exact ⟨_, _, ⟨v1, (v1 + 1 + v2) % k, false⟩, rfl, ok1, hL7, hP7, D7.mono (by omega), K17⟩
      clear hL6 hP6 K46 D6 K6 K5 D5
      rintro σ' H6 ⟨y4', y7', t', rfl, okt, hL6, hP6, D6, K6⟩
      -- append
      refine ⟨.ref L, rfl, .inl ⟨rfl, _, SqL.of hL6⟩, .int t'.one, rfl, .int t'.other, rfl, by show 2 ≤ sizeLine; decide, fun p np => ?_⟩
      refine ⟨.ref d, rfl, d, _, 2, rfl, D6.new np, by omega, by decide, by decide, fun v7 H7 a7 b7 D7 K7 => ?_⟩
      have hp : p ≠ d := D6.ned np
      have fo : ∃ fo : Bool, atI [V.str "friend", V.str "foe"] v7 = some (.str (kindS fo)) := by
        have h01 : v7 = 0 ∨ v7 = 1 := by omega
        rcases h01 with e | e <;> subst e
        · exact ⟨false, rfl⟩
        · exact ⟨true, rfl⟩
      obtain ⟨fo, e5⟩ := fo
      refine ⟨p, _, v7, _, rfl, rfl, SqL.of (K7 _ _ hp hp upd_same), e5, by show 3 ≤ sizeLine; decide, fun q2 nq => ?_⟩
      have hL7 := same_new (o := .tup [.int t'.one, .int t'.other, .str (kindS fo)]) nq _ _ (K7 _ _ hLd hLd (same_new np _ _ hL6))
      have hP7 := ties_tk (Same.tk (same_new (o := .tup [.int t'.one, .int t'.other, .str (kindS fo)]) nq)) (ties_tk (K7.tk (D6.new np)) (ties_tk (Same.tk (same_new (o := .lst [.str "friend", .str "foe"]) np)) hP6))
      have hlv : vs.length = ts.length := Paired.length hP6
      refine ⟨L, vs, _, rfl, rfl, hL7, small1000 (by omega), ?_⟩
      refine ⟨_, _, _, _, vs ++ [.ref q2], ts ++ [⟨t'.one, t'.other, fo⟩], rfl, upd_same, Paired.snoc (ties_tk (tk_lst hL7) hP7) ⟨q2, rfl, tk_lst hL7 _ _ upd_same⟩, by rw [List.length_append, hlen]; rfl, fun t2 ht => ?_, ((D7.new nq).mut hLd).mono (by omega), (((K6.trans (Kp.new np)).trans K7).trans (Kp.new nq)).mut nL0⟩
      rcases List.mem_append.mp ht with h | h
      · exact hok t2 h
      · rw [List.mem_singleton.mp h]
        exact okt
    · rintro σ' H4 ⟨y4, y5, y6, y7, vs, ts, rfl, hL, hP, hlen, hok, D4, K4⟩
      refine ⟨.int k, rfl, .ref L, rfl, L, vs, rfl, .inl ⟨SqL.of hL, fun b nb => ⟨by show 2 ≤ sizeLine; decide, fun a na => ?_⟩⟩⟩
      have s2 := (same_new (o := .tup vs) nb).trans (same_new (o := .tup [.int k, .ref b]) na)
      exact q _ k ts _ ⟨a, b, vs, rfl, upd_same, same_new na _ _ upd_same, ties_tk (Same.tk s2) hP⟩ ⟨hn1, hn2, by omega, hok⟩ ((D4.same s2).mono (by omega)) (K4.trans (Same.kp s2))
end
/-! ### tuples cut and put together -/
section
variable {X : Cx}
theorem cutV_whole {xs : List V} {lo hi : Option Int} (h : HT.sIx xs.length 0 lo = 0 ∧ HT.sIx xs.length xs.length hi = xs.length) : cutV xs lo hi = xs := by
  unfold cutV
  rw [h.1, h.2]
  simp
def rSlU : V → Option Int → Option Int → Hp → VK → Prop := fun x lo hi H Q => ∃ a xs, x = .ref a ∧ H a = some (.tup xs) ∧ ∀ r H', Same H H' → H' r = some (.tup (cutV xs lo hi)) → Q (.ref r) H'
theorem sl_tupU : SlR X rSlU := by
  intro pins s σ H x v vl vu lo hi sl Q I rx hs pl pu h
  obtain ⟨a, xs, rfl, hx, q⟩ := h
  refine sl_tupA pins s σ H _ v vl vu lo hi sl Q I rx hs pl pu ⟨a, xs, rfl, SqT.of hx, fun hw => ?_, fun _ p np => ?_⟩
  · exact q a H (Same.refl H) (by rw [cutV_whole hw]; exact hx)
  · exact q p _ (same_new np) upd_same
def rCatU : R2 := fun x y H Q => ∃ a b xs ys, x = .ref a ∧ y = .ref b ∧ H a = some (.tup xs) ∧ H b = some (.tup ys) ∧ xs.length + ys.length ≤ 100000 ∧ ∀ r H', Same H H' → H' r = some (.tup (xs ++ ys)) → Q (.ref r) H'
theorem op_catU : OpR X (binaryOp .Add) rCatU := by
  intro pins s σ H x y v u Q I rx ry h
  obtain ⟨a, b, xs, ys, rfl, rfl, ha, hb, hz, q⟩ := h
  refine op_catA pins s σ H _ _ v u Q I rx ry ⟨a, b, xs, ys, rfl, rfl, SqT.of ha, SqT.of hb, Evl.sz_of hz, fun e => ?_, fun _ e => ?_, fun _ _ p np => ?_⟩
  · subst e
    exact q b H (Same.refl H) hb
  · subst e
    exact q a H (Same.refl H) (by rw [List.append_nil]; exact ha)
  · exact q p _ (same_new np) upd_same
end
/-! ### things of any kind -/
/-- its kind is known -/
def Kn (H : Hp) : V → Prop
  | .non => True
  | .bl _ => True
  | .int _ => True
  | .str _ => True
  | .ref a => (∃ xs, H a = some (.lst xs)) ∨ (∃ xs, H a = some (.tup xs)) ∨ ∃ kvs, H a = some (.dK kvs)
  | _ => False
def isI : V → Bool
  | .int _ => true
  | .bl _ => true
  | _ => false
def isB : V → Bool
  | .bl _ => true
  | _ => false
def isW : V → Bool
  | .int _ => true
  | _ => false
def isT (H : Hp) : V → Bool
  | .ref a => match H a with
    | some (.tup _) => true
    | _ => false
  | _ => false
section
variable {K : PySem.W.Frag} {H : Hp}
theorem kn_int {v : V} (h : Kn H v) : ∃ t, TyX K H v t ∧ PySem.W.kitOne K t (.type "int") = some (isI v) := by
  cases v with
  | non => exact ⟨_, .base .non, kit_ty (r := false) (by decide +kernel)⟩
  | bl b => exact ⟨_, .base (.bl b), kit_ty (r := true) (by decide +kernel)⟩
  | int i => exact ⟨_, .base (.int i), kit_ty (r := true) (by decide +kernel)⟩
  | str x => exact ⟨_, .base (.str x), kit_ty (r := false) (by decide +kernel)⟩
  | ref a =>
    rcases h with ⟨xs, h⟩ | ⟨xs, h⟩ | ⟨xs, h⟩
    · exact ⟨_, .base (.lst h), kit_ty (r := false) (by decide +kernel)⟩
    · exact ⟨_, .base (.tup h), kit_ty (r := false) (by decide +kernel)⟩
    · exact ⟨_, .base (.dK h), kit_ty (r := false) (by decide +kernel)⟩
  | byt b => exact h.elim
  | flt b => exact h.elim
  | ty n => exact h.elim
theorem kn_bool {v : V} (h : Kn H v) : ∃ t, TyX K H v t ∧ PySem.W.kitOne K t (.type "bool") = some (isB v) := by
  cases v with
  | non => exact ⟨_, .base .non, kit_ty (r := false) (by decide +kernel)⟩
  | bl b => exact ⟨_, .base (.bl b), kit_ty (r := true) (by decide +kernel)⟩
  | int i => exact ⟨_, .base (.int i), kit_ty (r := false) (by decide +kernel)⟩
  | str x => exact ⟨_, .base (.str x), kit_ty (r := false) (by decide +kernel)⟩
  | ref a =>
    rcases h with ⟨xs, h⟩ | ⟨xs, h⟩ | ⟨xs, h⟩
    · exact ⟨_, .base (.lst h), kit_ty (r := false) (by decide +kernel)⟩
    · exact ⟨_, .base (.tup h), kit_ty (r := false) (by decide +kernel)⟩
    · exact ⟨_, .base (.dK h), kit_ty (r := false) (by decide +kernel)⟩
  | byt b => exact h.elim
  | flt b => exact h.elim
  | ty n => exact h.elim
theorem kn_tup {v : V} (h : Kn H v) : ∃ t, TyX K H v t ∧ PySem.W.kitOne K t (.type "tuple") = some (isT H v) := by
  cases v with
  | non => exact ⟨_, .base .non, kit_ty (r := false) (by decide +kernel)⟩
  | bl b => exact ⟨_, .base (.bl b), kit_ty (r := false) (by decide +kernel)⟩
  | int i => exact ⟨_, .base (.int i), kit_ty (r := false) (by decide +kernel)⟩
  | str x => exact ⟨_, .base (.str x), kit_ty (r := false) (by decide +kernel)⟩
  | ref a =>
    unfold isT
    rcases h with ⟨xs, h⟩ | ⟨xs, h⟩ | ⟨xs, h⟩
    · exact ⟨_, .base (.lst h), by simp only [h]; exact kit_ty (r := false) (by decide +kernel)⟩
    · exact ⟨_, .base (.tup h), by simp only [h]; exact kit_ty (r := true) (by decide +kernel)⟩
    · exact ⟨_, .base (.dK h), by simp only [h]; exact kit_ty (r := false) (by decide +kernel)⟩
  | byt b => exact h.elim
  | flt b => exact h.elim
  | ty n => exact h.elim
theorem isT_at {v : V} (h : isT H v = true) : ∃ a xs, v = .ref a ∧ H a = some (.tup xs) := by
  cases v with
  | ref a =>
    unfold isT at h
    cases e : H a with
    | none => simp only [e] at h; cases h
    | some o =>
      cases o with
      | tup xs => exact ⟨a, xs, rfl, e⟩
      | _ => simp only [e] at h; cases h
  | _ => cases h
theorem isT_of {a : Addr} {xs : List V} (h : H a = some (.tup xs)) : isT H (.ref a) = true := by
  unfold isT
  simp only [h]
end
section
variable {P : Program} {w : World} {K : PySem.W.Frag} {mg : Str → Option Value} {base : Heap}
def spWhole : Sp := fun vs H Q _ => ∃ v, vs = [v] ∧ Kn H v ∧ Q (.bl (isW v)) H
theorem and_whole {v : V} : (isI v && !isB v) = isW v := by cases v <;> rfl
end
/-! ### ties, walks, parts: the mathematics -/
def Adj (ts : List Tie) (a b : Int) (foe : Bool) : Prop := ∃ t ∈ ts, t.foe = foe ∧ ((t.one = a ∧ t.other = b) ∨ (t.one = b ∧ t.other = a))
theorem Adj.symm {ts : List Tie} {a b : Int} {k : Bool} (h : Adj ts a b k) : Adj ts b a k := by
  obtain ⟨t, ht, e, h⟩ := h
  exact ⟨t, ht, e, h.symm⟩
/-- a walk with so many foes, even or odd -/
inductive RP (ts : List Tie) (a : Int) : Int → Bool → Prop
  | nil : RP ts a a false
  | step {b c : Int} {p k : Bool} : RP ts a b p → Adj ts b c k → RP ts a c (p ^^ k)
def Rch (ts : List Tie) (a b : Int) : Prop := ∃ p, RP ts a b p
theorem RP.trans {ts : List Tie} {a b c : Int} {p q : Bool} (h : RP ts a b p) (g : RP ts b c q) : RP ts a c (p ^^ q) := by
  induction g with
  | nil =>
    rw [Bool.xor_false]
    exact h
  | step _ k ih =>
    rw [← Bool.xor_assoc]
    exact ih.step k
theorem RP.one {ts : List Tie} {a b : Int} {k : Bool} (h : Adj ts a b k) : RP ts a b k := by
  have q := RP.nil.step h
  rw [Bool.false_xor] at q
  exact q
theorem RP.symm {ts : List Tie} {a b : Int} {p : Bool} (h : RP ts a b p) : RP ts b a p := by
  induction h with
  | nil => exact .nil
  | step _ k ih =>
    have q := (RP.one k.symm).trans ih
    rw [Bool.xor_comm] at q
    exact q
theorem Rch.refl {ts : List Tie} {a : Int} : Rch ts a a := ⟨_, .nil⟩
theorem Rch.symm {ts : List Tie} {a b : Int} (h : Rch ts a b) : Rch ts b a := by
  obtain ⟨p, h⟩ := h
  exact ⟨p, h.symm⟩
theorem Rch.trans {ts : List Tie} {a b c : Int} (h : Rch ts a b) (g : Rch ts b c) : Rch ts a c := by
  obtain ⟨p, h⟩ := h
  obtain ⟨q, g⟩ := g
  exact ⟨_, h.trans g⟩
theorem Rch.adj {ts : List Tie} {a b : Int} {k : Bool} (h : Adj ts a b k) : Rch ts a b := ⟨_, RP.one h⟩
theorem Rch.ind {ts : List Tie} {a b : Int} (C : Int → Prop) (h : Rch ts a b) (h0 : C a) (hs : ∀ x y k, C x → Adj ts x y k → C y) : C b := by
  obtain ⟨p, h⟩ := h
  induction h with
  | nil => exact h0
  | step _ k ih => exact hs _ _ _ ih k
theorem Adj.rng {ts : List Tie} {n a b : Int} {k : Bool} (ok : ∀ t ∈ ts, TieOk n t) (h : Adj ts a b k) : 0 ≤ b ∧ b < n := by
  obtain ⟨t, ht, _, h⟩ := h
  obtain ⟨h1, h2, h3, h4, _⟩ := ok t ht
  rcases h with ⟨e1, e2⟩ | ⟨e1, e2⟩
  · omega
  · omega
theorem Rch.rng {ts : List Tie} {n a b : Int} (ok : ∀ t ∈ ts, TieOk n t) (ha : 0 ≤ a ∧ a < n) (h : Rch ts a b) : 0 ≤ b ∧ b < n := h.ind (fun x => 0 ≤ x ∧ x < n) ha fun _ _ _ _ k => k.rng ok
def leader (ts : List Tie) (s : Int) : Prop := ∀ q, Rch ts s q → s ≤ q
/-- rising lists of the same numbers are one -/
theorem rising_ext : ∀ {xs ys : List Int}, xs.Pairwise (· < ·) → ys.Pairwise (· < ·) → (∀ z, z ∈ xs ↔ z ∈ ys) → xs = ys
  | [], [], _, _, _ => rfl
  | [], y :: ys, _, _, h => by have := (h y).mpr (by simp); simp at this
  | x :: xs, [], _, _, h => by have := (h x).mp (by simp); simp at this
  | x :: xs, y :: ys, hx, hy, h => by
    rw [List.pairwise_cons] at hx hy
    have e : x = y := by
      have h1 := (h x).mp (by simp)
      have h2 := (h y).mpr (by simp)
      rcases List.mem_cons.mp h1 with e | e
      · exact e
      · rcases List.mem_cons.mp h2 with e' | e'
        · exact e'.symm
        · have := hx.1 y e'
          have := hy.1 x e
          omega
    subst e
    rw [rising_ext hx.2 hy.2 fun z => ?_]
    constructor
    · intro hz
      rcases List.mem_cons.mp ((h z).mp (List.mem_cons_of_mem _ hz)) with e | e
      · have := hx.1 z hz
        omega
      · exact e
    · intro hz
      rcases List.mem_cons.mp ((h z).mpr (List.mem_cons_of_mem _ hz)) with e | e
      · have := hy.1 z hz
        omega
      · exact e
/-- 0, 1, .., n - 1 -/
def rng (n : Nat) : List Int := (List.range n).map fun (i : Nat) => (i : Int)
theorem mem_rng {n : Nat} {z : Int} : z ∈ rng n ↔ 0 ≤ z ∧ z < n := by
  unfold rng
  rw [List.mem_map]
  constructor
  · rintro ⟨i, hi, rfl⟩
    have := List.mem_range.mp hi
    omega
  · rintro ⟨h1, h2⟩
    exact ⟨z.toNat, List.mem_range.mpr (by omega), by omega⟩
theorem rng_rising (n : Nat) : (rng n).Pairwise (· < ·) := by
  unfold rng
  rw [List.pairwise_map]
  exact List.pairwise_lt_range.imp (by intro a b h; omega)
theorem rng_succ (n : Nat) : rng (n + 1) = rng n ++ [(n : Int)] := by
  unfold rng
  rw [List.range_succ, List.map_append]
  rfl
theorem rng_length (n : Nat) : (rng n).length = n := by
  unfold rng
  rw [List.length_map, List.length_range]
open Classical in
/-- the part of s -/
noncomputable def partOf (ts : List Tie) (n : Nat) (s : Int) : List Int := (rng n).filter fun p => decide (Rch ts s p)
open Classical in
/-- the parts by their first places, below i -/
noncomputable def partsTo (ts : List Tie) (n i : Nat) : List (List Int) := ((rng i).filter fun s => decide (leader ts s)).map (partOf ts n)
open Classical in
theorem partsTo_succ (ts : List Tie) (n i : Nat) : partsTo ts n (i + 1) = partsTo ts n i ++ (if leader ts i then [partOf ts n i] else []) := by
  unfold partsTo
  rw [rng_succ, List.filter_append, List.map_append]
  congr 1
  by_cases h : leader ts (i : Int)
  · rw [if_pos h, List.filter_cons, if_pos (decide_eq_true h)]
    rfl
  · rw [if_neg h, List.filter_cons, if_neg (by simpa using h)]
    rfl
theorem part_rising (ts : List Tie) (n : Nat) (s : Int) : (partOf ts n s).Pairwise (· < ·) := (rng_rising n).filter _
theorem mem_part {ts : List Tie} {n : Nat} {s z : Int} : z ∈ partOf ts n s ↔ (0 ≤ z ∧ z < n) ∧ Rch ts s z := by
  unfold partOf
  rw [List.mem_filter, mem_rng]
  simp
/-! ### the least place that each comes to, gone over again and again -/
def relax (f : Int → Int) (t : Tie) : Int → Int := fun x => if x = t.one ∨ x = t.other then min (f t.one) (f t.other) else f x
def rounds (ts : List Tie) : Nat → Int → Int
  | 0 => fun x => x
  | r + 1 => ts.foldl relax (rounds ts r)
theorem relax_le (f : Int → Int) (t : Tie) (x : Int) : relax f t x ≤ f x := by
  unfold relax
  split
  · rename_i h
    rcases h with rfl | rfl <;> omega
  · exact Int.le_refl _
theorem fold_le : ∀ (l : List Tie) (f : Int → Int) (x : Int), l.foldl relax f x ≤ f x
  | [], _, _ => Int.le_refl _
  | t :: l, f, x => Int.le_trans (fold_le l (relax f t) x) (relax_le f t x)
theorem fold_tie : ∀ (l : List Tie) (f : Int → Int) (t : Tie), t ∈ l → l.foldl relax f t.one ≤ min (f t.one) (f t.other) ∧ l.foldl relax f t.other ≤ min (f t.one) (f t.other)
  | t' :: l, f, t, h => by
    rcases List.mem_cons.mp h with e | e
    · subst e
      have h1 := fold_le l (relax f t) t.one
      have h2 := fold_le l (relax f t) t.other
      have e1 : relax f t t.one = min (f t.one) (f t.other) := by unfold relax; rw [if_pos (.inl rfl)]
      have e2 : relax f t t.other = min (f t.one) (f t.other) := by unfold relax; rw [if_pos (.inr rfl)]
      rw [e1] at h1
      rw [e2] at h2
      exact ⟨h1, h2⟩
    · have ih := fold_tie l (relax f t') t e
      have h1 := relax_le f t' t.one
      have h2 := relax_le f t' t.other
      exact ⟨Int.le_trans ih.1 (by omega), Int.le_trans ih.2 (by omega)⟩
theorem fold_rch {ts : List Tie} : ∀ (l : List Tie) (f : Int → Int), (∀ t ∈ l, t ∈ ts) → (∀ x, Rch ts x (f x)) → ∀ x, Rch ts x (l.foldl relax f x)
  | [], _, _, h => h
  | t :: l, f, hl, h => fold_rch l (relax f t) (fun t' ht => hl t' (List.mem_cons_of_mem _ ht)) fun x => by
    have ad : Rch ts t.one t.other := Rch.adj (k := t.foe) ⟨t, hl t (by simp), rfl, .inl ⟨rfl, rfl⟩⟩
    unfold relax
    split
    · rename_i hx
      have key : Rch ts x t.one ∧ Rch ts x t.other := by
        rcases hx with e | e <;> subst e
        · exact ⟨Rch.refl, ad⟩
        · exact ⟨ad.symm, Rch.refl⟩
      rcases Int.le_total (f t.one) (f t.other) with q | q
      · rw [Int.min_eq_left q]
        exact key.1.trans (h _)
      · rw [Int.min_eq_right q]
        exact key.2.trans (h _)
    · exact h x
theorem rounds_rch (ts : List Tie) : ∀ (r : Nat) (x : Int), Rch ts x (rounds ts r x)
  | 0, _ => Rch.refl
  | r + 1, x => fold_rch ts _ (fun _ h => h) (rounds_rch ts r) x
theorem filter_lt {p q : Int → Bool} : ∀ {l : List Int}, (∀ x ∈ l, q x = true → p x = true) → (∃ x ∈ l, p x = true ∧ q x = false) → (l.filter q).length < (l.filter p).length
  | [], _, ⟨x, hx, _⟩ => by simp at hx
  | y :: l, hi, ⟨x, hx, hp, hq⟩ => by
    have mono : (l.filter q).length ≤ (l.filter p).length := by
      have hi' : ∀ x ∈ l, q x = true → p x = true := fun x h => hi x (List.mem_cons_of_mem _ h)
      clear hi hx hp hq
      induction l with
      | nil => exact Nat.le_refl _
      | cons z l ih =>
        have ih := ih fun x h => hi' x (List.mem_cons_of_mem _ h)
        rw [List.filter_cons, List.filter_cons]
        have hz := hi' z (by simp)
        cases h1 : q z <;> cases h2 : p z <;> simp_all <;> omega
    rw [List.filter_cons, List.filter_cons]
    rcases List.mem_cons.mp hx with e | e
    · subst e
      rw [hq, hp]
      simp
      omega
    · have ih := filter_lt (l := l) (fun x h => hi x (List.mem_cons_of_mem _ h)) ⟨x, e, hp, hq⟩
      have hy := hi y (by simp)
      cases h1 : q y <;> cases h2 : p y <;> simp_all <;> omega
open Classical in
/-- behind as many rounds as there are places each has its part's least place -/
theorem rounds_least {ts : List Tie} {n : Nat} (ok : ∀ t ∈ ts, TieOk n t) {m p : Int} (hm : leader ts m) (h0 : 0 ≤ m ∧ m < n) (hp : Rch ts m p) : rounds ts n p = m := by
  have ge : ∀ r x, Rch ts m x → m ≤ rounds ts r x := fun r x hx => hm _ (hx.trans (rounds_rch ts r x))
  have mono : ∀ r x, rounds ts (r + 1) x ≤ rounds ts r x := fun r x => fold_le ts _ x
  have atm : ∀ r, rounds ts r m = m := fun r => by
    have h1 := ge r m Rch.refl
    have h2 : rounds ts r m ≤ m := by
      induction r with
      | zero => exact Int.le_refl _
      | succ r ih => exact Int.le_trans (mono r m) (ih (ge r m Rch.refl))
    omega
  have cnt : ∀ r, ((rng n).filter fun x => decide (Rch ts m x ∧ rounds ts r x ≠ m)).length ≤ n - r := fun r => by
    induction r with
    | zero =>
      refine Nat.le_trans (List.length_filter_le _ _) ?_
      rw [rng_length]
      omega
    | succ r ih =>
      by_cases hex : ∃ x, Rch ts m x ∧ rounds ts r x ≠ m
      · obtain ⟨x, hx, hne⟩ := hex
        -- an edge over which it comes
        have edge : ∃ a b k, Rch ts m a ∧ rounds ts r a = m ∧ Adj ts a b k ∧ rounds ts r b ≠ m := by
          by_cases hn : ∃ a b k, Rch ts m a ∧ rounds ts r a = m ∧ Adj ts a b k ∧ rounds ts r b ≠ m
          · exact hn
          · exfalso
            refine hne (hx.ind (fun y => Rch ts m y ∧ rounds ts r y = m) ⟨Rch.refl, atm r⟩ fun a b k ha k' => ⟨ha.1.trans (Rch.adj k'), ?_⟩).2
            by_cases hb : rounds ts r b = m
            · exact hb
            · exact absurd ⟨a, b, k, ha.1, ha.2, k', hb⟩ hn
        obtain ⟨a, b, k, ha, ha2, hab, hb⟩ := edge
        have hmb : Rch ts m b := ha.trans (Rch.adj hab)
        have hb' : rounds ts (r + 1) b = m := by
          have h1 := ge (r + 1) b hmb
          obtain ⟨t, ht, _, h⟩ := hab
          have ft := fold_tie ts (rounds ts r) t ht
          have h2 : rounds ts (r + 1) b ≤ m := by
            rcases h with ⟨e1, e2⟩ | ⟨e1, e2⟩
            · have q := ft.2
              rw [e1, e2, ha2] at q
              exact Int.le_trans q (by omega)
            · have q := ft.1
              rw [e1, e2, ha2] at q
              exact Int.le_trans q (by omega)
          omega
        have lt := filter_lt (p := fun x => decide (Rch ts m x ∧ rounds ts r x ≠ m)) (q := fun x => decide (Rch ts m x ∧ rounds ts (r + 1) x ≠ m)) (l := rng n) (fun x _ hq => by
          have hq := of_decide_eq_true hq
          refine decide_eq_true ⟨hq.1, fun z => hq.2 ?_⟩
          have h1 := ge (r + 1) x hq.1
          have h2 := mono r x
          omega) ⟨b, mem_rng.mpr (hmb.rng ok h0), decide_eq_true ⟨hmb, hb⟩, decide_eq_false fun z => z.2 hb'⟩
        omega
      · have e : (rng n).filter (fun x => decide (Rch ts m x ∧ rounds ts (r + 1) x ≠ m)) = [] := by
          rw [List.filter_eq_nil_iff]
          intro x _ hq
          have hq := of_decide_eq_true hq
          refine hex ⟨x, hq.1, fun z => hq.2 ?_⟩
          have h1 := ge (r + 1) x hq.1
          have h2 := mono r x
          omega
        rw [e]
        exact Nat.zero_le _
  have c := cnt n
  rw [Nat.sub_self] at c
  have e := List.eq_nil_of_length_eq_zero (Nat.le_zero.mp c)
  by_cases hne : rounds ts n p = m
  · exact hne
  · rw [List.filter_eq_nil_iff] at e
    exact absurd (decide_eq_true ⟨hp, hne⟩) (e p (mem_rng.mpr (hp.rng ok h0)))
open Classical in
/-- each has a least place -/
theorem has_leader {ts : List Tie} {n : Nat} (ok : ∀ t ∈ ts, TieOk n t) {p : Int} (h0 : 0 ≤ p ∧ p < n) : ∃ m, leader ts m ∧ (0 ≤ m ∧ m < n) ∧ Rch ts m p := by
  have key : ∀ (k : Nat) (x : Int), x = k → Rch ts p x → ∃ m, leader ts m ∧ (0 ≤ m ∧ m < n) ∧ Rch ts m p := by
    intro k
    induction k using Nat.strongRecOn with
    | ind k ih =>
      intro x hx hr
      have hxr := hr.rng ok h0
      by_cases hl : leader ts x
      · exact ⟨x, hl, hxr, hr.symm⟩
      · have hl' : ∃ q, Rch ts x q ∧ q < x := by
          by_cases h : ∃ q, Rch ts x q ∧ q < x
          · exact h
          · exfalso
            refine hl fun q hq => ?_
            by_cases h' : q < x
            · exact absurd ⟨q, hq, h'⟩ h
            · omega
        obtain ⟨q, hq, hlt⟩ := hl'
        have hqr := hq.rng ok hxr
        exact ih q.toNat (by omega) q (by omega) (hr.trans hq)
  exact key p.toNat p (by omega) Rch.refl
/-! ### tuples that are known to have no dict: their methods -/
def NoD (H : Hp) (p : Addr) (xs : List V) : Prop := ∃ o : Obj, o.dict = none ∧ H p = some (.frz o (.tup xs))
theorem NoD.same {H H' : Hp} {p : Addr} {xs : List V} (h : NoD H p xs) (s : Same H H') : NoD H' p xs := by
  obtain ⟨o, h1, h2⟩ := h
  exact ⟨o, h1, s _ _ h2⟩
theorem NoD.sq {K : PySem.W.Frag} {H : Hp} {p : Addr} {xs : List V} (h : NoD H p xs) : SqT K H p xs := by
  obtain ⟨o, h1, h2⟩ := h
  exact .inl (.inr ⟨o, h2⟩)
theorem NoD.kp {H H' : Hp} {d p : Addr} {b : Nat} {xs : List V} (h : NoD H p xs) (k : Kp d d H H') (D : Well H d b) : NoD H' p xs := by
  obtain ⟨o, h1, h2⟩ := h
  obtain ⟨g, st, n, e1, _⟩ := D
  have ne : p ≠ d := ne_of h2 e1 (by intro z; cases z)
  exact ⟨o, h1, k _ _ ne ne h2⟩
section
variable {X : Cx}
theorem call_tuple_ofZ : CallR X (.type "tuple") (fun xs H Q => ∃ p ys, xs = [.ref p] ∧ SqL X.K H p ys ∧ ∀ l o, o.dict = none → H l = none → Q (.ref l) (upd H l (.frz o (.tup ys)))) := by
  intro pins s σ H xs us Q I r h
  obtain ⟨p, ys, rfl, hq, q⟩ := h
  obtain ⟨u, rfl, rx⟩ := vals1 r
  cases rx
  obtain ⟨its, r', pl, hz⟩ := I.list hq
  have hlen := r'.length
  refine call_tuple_list pl.isList (fun h' kp => ?_) (by simp only [List.size_toArray] <;> omega)
  have I1 : Inv X pins σ H { s with heap := h' } := I.kept (t' := s.toks) kp
  have I2 : Inv X pins σ (upd H h'.objs.size (.frz { cls := .type "tuple", data := .seq its.toArray } (.tup ys))) { s with heap := h'.push { cls := .type "tuple", data := .seq its.toArray } } :=
    I1.laid (t' := s.toks) (fun b o e => Heap.get?_push_of_some _ e) (Nat.le_refl _) (show ObjOk X.prog X.w _ _ _ (.frz { cls := .type "tuple", data := .seq its.toArray } (.tup ys)) from ⟨Heap.get?_push_size _ rfl, hz, its, r', IsTup.new _ _⟩)
  exact ⟨.ref h'.objs.size, _, I2, rfl, q _ _ rfl (I1.hok.fresh (Nat.le_refl _))⟩
def tTupRgZ (te : L2.St → Hp → (Int → Int → Hp → Prop) → Prop) : TE := fun σ H Q => te σ H fun a b H1 => RgOk a b ∧ ∀ q o, o.dict = none → H1 q = none → Q (.ref q) (upd H1 q (.frz o (.tup (rgV a b))))
theorem pe_tupRgZ {e : Expr} {te : L2.St → Hp → (Int → Int → Hp → Prop) → Prop} {p pos : Pos} (hc : X.calm = true) (hg : Gl X "tuple") (hm : X.mg "tuple" = none) (he : PRg X e te) (na : starEach [e] X.env = (false, eval e X.env) :: starEach [] X.env := by rfl) : PE X (.Call (.Name "tuple" p) [e] [] pos) (tTupRgZ te) := by
  refine ⟨fun pins s σ H Q I h => ?_⟩
  refine Call_ (ld_blt I hg hm boot_tuple (PyProof.Rows.callWith_type1 (args_cons (thn (he pins s σ H _ I h) fun x s1 ⟨r, a, b, t, u, v, H1, ex, hr, I1, ok, q⟩ => args_nil ?_) na) na))
  subst ex
  obtain ⟨b1, b2, b3, b4, b5⟩ := ok
  refine call_tuple_range (n := (b - a).toNat) (I1.ok.hd hc) hr (small_one b1 b2 b3 b4) (rangeSize_nat a b) b5 fun h' tk acc hk hi => ?_
  have I2 : Inv X pins σ H1 { s1 with heap := h', toks := tk } := I1.kept hk
  refine ⟨.ref h'.objs.size, upd H1 h'.objs.size (.frz { cls := .type "tuple", data := .seq acc } (.tup (rgV a b))), I2.laid (t' := tk) (fun c o e => Heap.get?_push_of_some _ e) (Nat.le_refl _) (show ObjOk X.prog X.w _ _ _ (.frz { cls := .type "tuple", data := .seq acc } (.tup (rgV a b))) from ⟨Heap.get?_push_size _ rfl, ?_, acc.toList, vals_rg hi, ?_⟩), rfl, q _ _ rfl (I2.hok.fresh (Nat.le_refl _))⟩
  · rw [rgV_length, sizeLine_eq]; omega
  · rw [Array.toArray_toList]; exact IsTup.new _ _
/-- a method of such a tuple -/
def tBMT (r : V → List V → Hp → VK → Prop) (to : TE) (t : TA) : TE := fun σ H Q => to σ H fun x H1 => (∃ p xs, x = .ref p ∧ NoD H1 p xs) ∧ t σ H1 fun xs H2 => r x xs H2 Q
theorem pe_bmT {o e : Expr} {es : List Expr} {to : TE} {t : TA} {name : Str} {apos cpos : Pos} {id : String} {r : V → List V → Hp → VK → Prop} (slot : Slot "tuple" name id) (hty : typeOf (.builtin id) = pure (.type "method_descriptor")) (hm : MtR X id r) (ho : PE X o to) (ha : PA X (e :: es) t)
    (hbase : attributeBase o name X.env (eval o X.env) = eval o X.env := by rfl)
    (hfew : ((backTo cpos (starEach (e :: es) X.env)).all (fun x => !x.1) && (backToKw cpos (keywordEach [] X.env)).all (fun x => x.1.isSome)
      && decide ((e :: es).length + ([] : List Keyword).length + (if ([] : List Keyword).isEmpty then 0 else 1) < 30)) = true := by rfl)
    (hline : (apos.endLine == cpos.line) = true := by rfl) (hs : starEach (e :: es) X.env = (false, eval e X.env) :: starEach es X.env := by rfl) (hplain : (backTo cpos (starEach es X.env)).any (·.1) = false := by rfl) :
    PE X (.Call (.Attribute o name apos) (e :: es) [] cpos) (tBMT r to t) := by
  refine ⟨fun pins s σ H Q I h => ?_⟩
  refine wpAny_Call_method_late hbase hfew hline rfl (thn (ho.run pins s σ H _ I h) fun v s1 ⟨x, H1, I1, r1, ⟨p, xs, ex, ob, od, hp⟩, q1⟩ => ?_)
  subst ex
  obtain rfl : v = Value.ref p := r1
  obtain ⟨e1, hz, its, rv, o2, e2, c2, n2, d2⟩ := (show ObjOk X.prog X.w H1 s1.heap p (.frz ob (.tup xs)) from I1.hok p _ hp)
  rw [e1] at e2
  cases e2
  refine ⟨"tuple", id, PySem.F.plainAttrs_tuple, slot, hty, ⟨ob, e1, c2⟩, fun a ea => ?_, ?_⟩
  · cases ea
    exact ⟨ob, e1, od⟩
  have hA := ha.run cpos pins s1 σ H1 _ I1 q1
  rw [hs] at hA ⊢
  refine Calls.callWith_builtin (by show (false || (backTo cpos (starEach es X.env)).any (·.1)) = false; rw [hplain] <;> rfl) (Calls.evalArgs_plain ?_)
  exact thn hA fun us s2 ⟨vs, H2, I2, r2, q2⟩ => hm pins s2 σ H2 (.ref p) vs (.ref p) us Q I2 rfl r2 q2
def rCntT (K : PySem.W.Frag) : V → List V → Hp → VK → Prop := fun x xs H Q => ∃ (p : Addr) (ns : List Int) (k : Int), x = .ref p ∧ xs = [.int k] ∧ SqT K H p (ns.map V.int) ∧ Q (.int (ns.count k : Nat)) H
theorem mt_tcount : MtR X "tuple.count" (rCntT X.K) := by
  intro pins s σ H x xs v us Q I rx rxs h
  obtain ⟨p, ns, k, rfl, rfl, hs, q⟩ := h
  cases rx
  obtain ⟨u, rfl, ru⟩ := rxs.one
  obtain ⟨t, rfl⟩ := ru
  obtain ⟨its, rv, ⟨⟨cls, dd, data, sl⟩, ho, hc, n, hd⟩, hlen⟩ := I.tuple hs
  simp only at hc hd
  subst hc hd
  have hi := ints_of_vals rv
  refine call_meets PySem.F.slot_tuple_count ⟨_, ho, rfl⟩ PySem.F.entry_tuple_count (PySem.F.args_tuple_count_2 _ _)
    (SeqAt.tuple_countAt p its.toArray n dd sl (.int k t) (eqk k)) ⟨ho, fun y hy => (eqk_gives hi y (by simpa using hy)).at _ _, ?_⟩
  have ec : its.toArray.toList.countP (eqk k) = ns.count k := eqk_count hi
  refine ⟨.int (ns.count k : Nat), H, I.tok _, ⟨s.toks, ?_⟩, q⟩
  show Value.int ((its.toArray.toList.countP (eqk k) : Nat) : Int) s.toks = Value.int ((ns.count k : Nat) : Int) s.toks
  rw [ec]
end
/-! ### zip of two tuples -/
theorem walk_zipT {K : PySem.W.Frag} {a b : Addr} {xs ys : List V} {n : Nat} (hn : n = min xs.length ys.length) : Walk (RZ.ItzT K a b) n (fun H => SqT K H a xs ∧ SqT K H b ys) (YPair (fun i => xs[i]?) (fun i => ys[i]?)) := by
  subst hn
  refine ⟨fun i _ hi q => ?_, fun _ q => ⟨xs, ys, q.1, q.2, by omega⟩, fun i H v H' _ q y => ?_⟩
  · have h1 : i < xs.length := by omega
    have h2 : i < ys.length := by omega
    exact ⟨xs, ys, xs[i], ys[i], q.1, q.2, by simp [h1], by simp [h2]⟩
  · obtain ⟨T, x, z, h1, h2, h3, h4, h5⟩ := y
    exact ⟨T, x, z, h1, h2, h3, h4 xs q.1, h5 ys q.2⟩
/-! ### rows of numbers as data -/
def IntsV (H : Hp) (v : V) (xs : List Int) : Prop := ∃ b, v = .ref b ∧ H b = some (.tup (xs.map V.int))
theorem IntsV.tk {H H' : Hp} (k : Tk H H') {v : V} {xs : List Int} (h : IntsV H v xs) : IntsV H' v xs := by
  obtain ⟨a, rfl, e⟩ := h
  exact ⟨a, rfl, k _ _ e⟩
def intsD (xs : List Int) : PyData := .tuple (xs.map PyData.int)
section
variable {K : PySem.W.Frag} {H : Hp}
theorem dp_ints : ∀ (xs : List Int), DpAll K H (xs.map V.int) (xs.map PyData.int)
  | [] => .nil
  | x :: xs => .cons (.int x) (dp_ints xs)
theorem IntsV.dp {v : V} {xs : List Int} (h : IntsV H v xs) : Dp K H v (intsD xs) := by
  obtain ⟨b, rfl, e⟩ := h
  exact .tup (SqT.of e) (dp_ints xs)
end
theorem lay_ints : ∀ xs : List Int, PyData.canLayAll0 (xs.map PyData.int) = true
  | [] => by simp [PyData.canLayAll0]
  | x :: xs => by simp [PyData.canLayAll0, PyData.canLay0, lay_ints xs]
theorem deep_ints : ∀ xs : List Int, PyData.depthAll (xs.map PyData.int) = 0
  | [] => by simp [PyData.depthAll]
  | x :: xs => by simp [PyData.depthAll, PyData.depth, deep_ints xs]
theorem lay_intsD (xs : List Int) : (intsD xs).canLay0 = true := by
  unfold intsD
  rw [PyData.canLay0]
  exact lay_ints xs
theorem deep_intsD (xs : List Int) : (intsD xs).depth = 1 := by
  unfold intsD
  rw [PyData.depth, deep_ints]
theorem shaped_intsD (xs : List Int) : SeqAt.shaped (intsD xs) = true := by
  unfold SeqAt.shaped
  rw [lay_intsD, deep_intsD]
  rfl
theorem eqv_nil (xs : List Int) : PyData.eqv (intsD xs) (intsD []) = xs.isEmpty := by
  unfold intsD
  rw [PyData.eqv]
  cases xs <;> rfl

theorem Same.mut {H H' : Hp} {a : Addr} {o : HO} (s : Same H H') (h : H a = none) : Same H (upd H' a o) := fun b x e => by
  rw [upd_ne (ne_of_none e h)]
  exact s b x e
/-! ### enumerate of a tuple -/
set_option maxHeartbeats 1000000 in
theorem meets_enumOne {v : Value} {o : Obj} {S : Heap → Prop} (B : Begins v o S) : Meets (Builtin.«enumerate.__new__» ⟨[.type "enumerate", v], []⟩) (fun _ R s => S s.heap ∧
      R (.ok (.ret (.ref (s.heap.push o).objs.size))) { s with heap := (s.heap.push o).push { cls := .type "enumerate", data := .fields #[.none, .bool false, .ref s.heap.objs.size, rawInt 0, .none, .none] } }) :=
  .of_wp fun prog w A R s h => by
    obtain ⟨hp, g, d, tk, os⟩ := s
    obtain ⟨h1, h⟩ := h
    have sub0 := sub_enumerate
    have begun : ∀ {A' : PySem.Around} {E : Value → Shared → Prop} {Q : Value → Shared → Prop}, Q (.ref hp.objs.size) ⟨hp.push o, g, d, tk, os⟩ → wpAny (model prog w) A' (pyIter v) Q E ⟨hp, g, d, tk, os⟩ := fun q => B.iter prog w _ _ ⟨hp, g, d, tk, os⟩ _ h1 q
    wp_walk using begun
    refine wpAny_stack_any fun st => wpAny_pure ?_
    split
    · rename_i c _ _ _ _ _
      cases (c == Value.type "enumerate")
      all_goals
        wp_walk using begun
        exact ⟨_, rfl, h⟩
    · wp_walk using begun
      exact ⟨_, rfl, h⟩
theorem call_enumT {P : Program} {w : World} {A : PySem.Around} {E : Value → Shared → Prop} {s : Shared} {t : Addr} {items : Array Value} {Q : Value → Shared → Prop} (ht : s.heap.IsTuple t items)
    (h : ∀ h', IsEnum h' (s.heap.objs.size + 1) s.heap.objs.size 0 .none → h'.IsTupleIter s.heap.objs.size t 0 → (∀ b o, s.heap.get? b = some o → h'.get? b = some o) → Q (.ref (s.heap.objs.size + 1)) { s with heap := h' }) : wpAny (model P w) A (call (.type "enumerate") [.ref t]) Q E s := by
  refine callType_new PySem.F.called_enumerate (by decide) (PySem.F.typeCall_enumerate_1 _) (PySem.F.newCall_enumerate_1 _) (fun ob => PySem.F.args_object_init_2 ob _) PySem.F.entry_enumerate_new (meets_enumOne (begins_tuple t items)) ⟨ht, ?_⟩
  have size1 := Heap.size_push s.heap { cls := .type "tuple_iterator", data := .fields #[.ref t, .int 0 0] }
  have en := Heap.get?_push_size (s.heap.push { cls := .type "tuple_iterator", data := .fields #[.ref t, .int 0 0] }) (o := { cls := .type "enumerate", data := .fields #[.none, .bool false, .ref s.heap.objs.size, rawInt 0, .none, .none] }) rfl
  rw [size1] at en
  show _ ∧ _
  rw [size1]
  exact ⟨⟨_, en, rfl⟩, h _ en ⟨_, Heap.get?_push_of_some _ (Heap.get?_push_size _ rfl), rfl, rfl⟩ fun b o e => Heap.get?_push_of_some _ (Heap.get?_push_of_some _ e)⟩
/-- the turns: a new pair each, of the number and the part -/
def ItN (K : PySem.W.Frag) (a : Addr) : It where
  go := fun i H => ∃ (xs : List V) (x : V), SqT K H a xs ∧ xs[i]? = some x
  yld := fun i H v H' => ∃ T x, v = .ref T ∧ H T = none ∧ H' = upd H T (.tup [.int (i : Nat), x]) ∧ ∀ xs, SqT K H a xs → xs[i]? = some x
  stop := fun i H => ∃ xs : List V, SqT K H a xs ∧ xs.length ≤ i
theorem turn_enumT {P : Program} {w : World} {K : PySem.W.Frag} {elts : List Expr} {kk : Nat} {tpos : Pos} (a e it : Addr) (n1 : e ≠ it) (n2 : a ≠ it) (n3 : e ≠ a) :
    Turn P w K (.Tuple elts kk tpos) (ItN K a) [e, it] e (fun i h => (∃ old, IsEnum h e it ((i : Nat) : Int) old) ∧ h.IsTupleIter it a i) where
  mem := List.mem_cons_self
  obj := by
    rintro i h ⟨⟨old, he⟩, o, ho, hc, hd⟩ b hb
    rcases List.mem_cons.mp hb with rfl | hb
    · exact ⟨_, he, fun v q => nomatch q⟩
    · rw [List.mem_singleton.mp hb]
      exact ⟨o, ho, fun v q => by rw [hd] at q; cases q⟩
  keep := by
    rintro i h h' ⟨⟨old, he⟩, hit⟩ kp
    exact ⟨⟨old, kp e (by simp) _ he⟩, hit.at fun o q => kp it (by simp) o q⟩
  item := by
    intro X hP hw hK hc i pins s σ H E I hf st hg
    subst hP hw hK
    obtain ⟨⟨old, he⟩, hit⟩ := st
    obtain ⟨xs, x, hq, hx⟩ := hg
    obtain ⟨its, rv, tup, _⟩ := I.tuple hq
    obtain ⟨u, hu, ru⟩ := rv.get hx
    have le := Heap.lt_size he
    have li : it < s.heap.objs.size := let ⟨_, q, _⟩ := hit; Heap.lt_size q
    have lt : i < its.toArray.size := by simpa using (List.getElem?_eq_some_iff.mp hu).1
    refine wpAny_pyNext_enum_itemD (Draws.tuple (A := X.A.in1) (I.ok.hd hc) it a n2 its.toArray) he ⟨hit, tup⟩ lt n1 (by simp [n1, n3]) fun x' h' tk ex out st' new _ kp => ?_
    obtain rfl : u = x' := Option.some.inj (((by simpa using hu) : its.toArray[i]? = some u).symm.trans ex)
    refine ⟨_, rfl, wpAny_letOwnedTupleGo_enum (s := { s with heap := h', toks := tk + 1 }) out fun h2 he2 sb => ?_⟩
    have new2 : h2.get? s.heap.objs.size = some { cls := .type "tuple", data := .seq #[.int i tk, u] } := (sb.2 _ (Nat.ne_of_gt le)).trans new
    have objT : ObjOk X.prog X.w (upd H s.heap.objs.size (.tup [.int (i : Nat), x])) h2 s.heap.objs.size (.tup [.int (i : Nat), x]) := ⟨by show 2 ≤ sizeLine; decide, [.int i tk, u], .cons ⟨_, rfl⟩ (.cons ru .nil), ⟨_, new2, rfl, _, rfl⟩⟩
    have J : Inv X pins σ (upd H s.heap.objs.size (.tup [.int (i : Nat), x])) { s with heap := h2, toks := tk + 1 } := I.turnedNew (ch := [e, it]) (fun b ob hb q => by
      simp only [List.mem_cons, List.not_mem_nil, or_false, not_or] at hb
      exact (sb.2 b hb.1).trans (kp b ob hb.1 hb.2 q)) hf (Nat.le_refl _) objT
    refine ⟨.ref s.heap.objs.size, _, J, rfl, ⟨_, x, rfl, I.hok.fresh (Nat.le_refl _), rfl, fun ys hy => by rw [I.tuple_inj hy hq]; exact hx⟩, ⟨⟨u, ?_⟩, st'.1.at fun o q => (sb.2 it (Ne.symm n1)).trans q⟩, fun b hb => ?_⟩
    · rw [show ((i + 1 : Nat) : Int) = (i : Int) + 1 from by omega]
      exact he2
    · have lb : b < s.heap.objs.size := by
        rcases List.mem_cons.mp hb with rfl | hb
        · exact le
        · rw [List.mem_singleton.mp hb]
          exact li
      rw [upd_ne (Nat.ne_of_lt lb)]
      exact (hf b hb).1
  done := by
    intro X hP hw hK hc i pins s σ H E I hf st hg
    subst hP hw hK
    obtain ⟨⟨old, he⟩, hit⟩ := st
    obtain ⟨xs, hq, hx⟩ := hg
    obtain ⟨its, rv, tup, _⟩ := I.tuple hq
    have hl := rv.length
    obtain ⟨f0, f1, f2, f3, f4, f5⟩ := hf it (by simp)
    have D : Draws X.prog X.w X.A.in1 it [it, a] i (fun _ _ => False) (fun j h => j = i ∧ h.IsTupleIter it a i ∧ h.IsTuple a its.toArray) := {
      live := fun j h z => let ⟨_, ⟨o, q, _⟩, _⟩ := z; ⟨o, q⟩
      frame := fun j h h' z kp => ⟨z.1, z.2.1.at fun o q => kp it (by simp) o q, z.2.2.at fun o q => kp a (by simp) o q⟩
      item := fun j s' Q E' hj z => absurd z.1 (Nat.ne_of_lt hj)
      done := fun s' Q E' z fin => wpAny_nextOf_tuple_end (I.ok.hd hc) z.2.1 z.2.2 (by simp; omega) fin }
    exact wpAny_pyNext_enum_endD D he ⟨rfl, hit, tup⟩ fun h' eb => ⟨rfl, I.turned (t' := s.toks) (fun b o hb q => eb b o hb q) f0 f1 f3 f4 f5⟩
  self := fun A i s Q E st h => let ⟨⟨_, he⟩, _⟩ := st; wpAny_pyIter_enum he h
def iEnT (K : PySem.W.Frag) (ta : TA) : TI := fun σ H R => ta σ H fun vs H1 => ∃ a xs, vs = [.ref a] ∧ SqT K H1 a xs ∧ R (ItN K a) H1
theorem pi_enumT {X : Cx} {e : Expr} {ta : TA} {p pos tpos : Pos} {elts : List Expr} {kk : Nat} (hg : Gl X "enumerate") (hm : X.mg "enumerate" = none) (ha : PA X [e] ta) (hs : starEach [e] X.env = [(false, eval e X.env)] := by rfl) :
    PI X (.Tuple elts kk tpos) (.Call (.Name "enumerate" p) [e] [] pos) (iEnT X.K ta) := by
  refine ⟨fun pins s σ H R I want => Call_ (ld_blt I hg hm boot_enumerate (PyProof.Rows.callWith_type1 (thn (ha.run pos pins s σ H _ I want) fun us s1 got => ?_) hs rfl))⟩
  obtain ⟨vs, H1, J, rel, a, xs, ex, hq, q⟩ := got
  subst ex
  obtain ⟨u, eu, r1⟩ := vals1 rel
  subst eu
  obtain rfl : u = Value.ref a := r1
  obtain ⟨its, rv, tup, _⟩ := J.tuple hq
  have la : a < s1.heap.objs.size := let ⟨_, q, _⟩ := tup; Heap.lt_size q
  refine call_enumT (items := its.toArray) tup fun h' he hit kp => wpAny_pyIter_enum he ?_
  have J2 : Inv X pins σ H1 { s1 with heap := h' } := J.kept (t' := s1.toks) kp
  refine ⟨s1.heap.objs.size + 1, [s1.heap.objs.size + 1, s1.heap.objs.size], _, _, H1, rfl, J2, turn_enumT a (s1.heap.objs.size + 1) s1.heap.objs.size (Nat.succ_ne_self _) (Nat.ne_of_lt la) (Nat.ne_of_gt (Nat.lt_succ_of_lt la)), ⟨⟨.none, he⟩, hit⟩, fun b hb => ?_, q⟩
  have lb : s1.heap.objs.size ≤ b := by
    rcases List.mem_cons.mp hb with rfl | hb
    · exact Nat.le_succ _
    · rw [List.mem_singleton.mp hb]
      exact Nat.le_refl _
  exact J.fpOk lb (J.hok.fresh lb)
theorem walk_enumT {K : PySem.W.Frag} {a : Addr} {xs : List V} : Walk (ItN K a) xs.length (fun H => SqT K H a xs) (YPair (fun i => some (.int (i : Nat))) (fun i => xs[i]?)) :=
  ⟨fun i H hi h => ⟨xs, xs[i], h, List.getElem?_eq_getElem hi⟩, fun H h => ⟨xs, h, Nat.le_refl _⟩, fun i H x H' hi h y => by
    obtain ⟨T, z, e1, e2, e3, e4⟩ := y
    exact ⟨T, _, z, e1, e2, e3, rfl, e4 xs h⟩⟩
/-! ### the law: the least place that each comes to -/
def lf (f : Int → Int) (n : Nat) : List V := (rng n).map fun i => V.int (f i)
theorem lf_len (f : Int → Int) (n : Nat) : (lf f n).length = n := by unfold lf; rw [List.length_map, rng_length]
theorem lf_get? (f : Int → Int) {n j : Nat} (h : j < n) : (lf f n)[j]? = some (.int (f j)) := by
  unfold lf rng
  rw [List.map_map, List.getElem?_map, List.getElem?_range h]
  rfl
theorem lf_at (f : Int → Int) {n : Nat} {i : Int} (h0 : 0 ≤ i) (h1 : i < n) : atI (lf f n) i = some (.int (f i)) := by
  have e : ((i.toNat : Nat) : Int) = i := by omega
  refine atI_of h0 ?_
  rw [lf_get? f (by omega), e]
theorem lf_set (f : Int → Int) {n : Nat} {i y : Int} (h0 : 0 ≤ i) (h1 : i < n) : (lf f n).set i.toNat (.int y) = lf (fun x => if x = i then y else f x) n := by
  refine List.ext_getElem? fun j => ?_
  rw [List.getElem?_set]
  by_cases hj : j < n
  · by_cases e : i.toNat = j
    · rw [if_pos e, if_pos (by rw [lf_len]; omega), lf_get? _ hj, if_pos (by omega)]
    · rw [if_neg e, lf_get? _ hj, lf_get? _ hj, if_neg (by omega)]
  · have e : i.toNat ≠ j := by omega
    rw [if_neg e, List.getElem?_eq_none (by rw [lf_len]; omega), List.getElem?_eq_none (by rw [lf_len]; omega)]
theorem ixN_of {n : Nat} {i : Int} (h0 : 0 ≤ i) (h1 : i < n) : ixN n i = some i.toNat := by
  unfold ixN
  rw [if_pos (by omega), if_pos (by omega)]
/-! ### ties that sides break -/
def sd (ss : List Int) (i : Int) : Int := ss.getD i.toNat 0
def tieAt (ts : List Tie) (i : Int) : Tie := ts.getD i.toNat ⟨0, 0, false⟩
def brk (ss : List Int) (t : Tie) : Bool := decide (sd ss t.one = sd ss t.other) == t.foe
def badTo (ss : List Int) (ts : List Tie) (k : Nat) : List Int := (rng k).filter fun i => brk ss (tieAt ts i)
def bad (ss : List Int) (ts : List Tie) : List Int := badTo ss ts ts.length
theorem badTo_succ (ss : List Int) (ts : List Tie) (k : Nat) : badTo ss ts (k + 1) = badTo ss ts k ++ (if brk ss (tieAt ts k) = true then [(k : Int)] else []) := by
  unfold badTo
  rw [rng_succ, List.filter_append, List.filter_cons]
  rfl
theorem badTo_len (ss : List Int) (ts : List Tie) (k : Nat) : (badTo ss ts k).length ≤ k := by
  unfold badTo
  have := List.length_filter_le (fun i => brk ss (tieAt ts i)) (rng k)
  rw [rng_length] at this
  exact this
theorem atI_sd {ss : List Int} {i : Int} (h0 : 0 ≤ i) (h1 : i < ss.length) : atI (ss.map V.int) i = some (.int (sd ss i)) := by
  have h : i.toNat < ss.length := by omega
  refine atI_of h0 ?_
  unfold sd
  rw [List.getElem?_map, List.getElem?_eq_getElem h, List.getD_eq_getElem?_getD, List.getElem?_eq_getElem h]
  rfl
theorem tieAt_of {ts : List Tie} {i : Nat} {t : Tie} (h : ts[i]? = some t) : tieAt ts i = t := by
  unfold tieAt
  rw [Int.toNat_natCast, List.getD_eq_getElem?_getD, h]
  rfl
theorem eq_brk (x y : Int) (f : Bool) : decide (V.bl (decide (V.int x = V.int y)) = V.bl (decide (V.str (kindS f) = V.str "foe"))) = (decide (x = y) == f) := by
  have e : decide (V.int x = V.int y) = decide (x = y) := by
    by_cases h : x = y
    · rw [decide_eq_true h, decide_eq_true (by rw [h])]
    · rw [decide_eq_false h, decide_eq_false (fun z => h (V.int.inj z))]
  rw [e]
  cases decide (x = y) <;> cases f <;> rfl
theorem ne_brk (x y : Int) (f : Bool) : (!decide (V.bl (!decide (V.int x = V.int y)) = V.bl (decide (V.str (kindS f) = V.str "foe")))) = (decide (x = y) == f) := by
  have e : decide (V.int x = V.int y) = decide (x = y) := by
    by_cases h : x = y
    · rw [decide_eq_true h, decide_eq_true (by rw [h])]
    · rw [decide_eq_false h, decide_eq_false (fun z => h (V.int.inj z))]
  rw [e]
  cases decide (x = y) <;> cases f <;> rfl
def spBreaks : Sp := fun vs H Q _ => ∃ (a b : Addr) (ss : List Int) (t : Tie), vs = [.ref a, .ref b] ∧ H a = some (.tup (ss.map V.int)) ∧ H b = some (.tup [.int t.one, .int t.other, .str (kindS t.foe)]) ∧ TieOk ss.length t ∧ Q (.bl (brk ss t)) H
def spBroken : Sp := fun vs H Q _ => ∃ (v : V) (a : Addr) (n : Int) (ts : List Tie) (ss : List Int), vs = [v, .ref a] ∧ WebAt H v n ts ∧ WebOk n ts ∧ H a = some (.tup (ss.map V.int)) ∧ (ss.length : Int) = n ∧
  ∀ r H', Same H H' → H' r = some (.tup ((bad ss ts).map V.int)) → Q (.ref r) H'
section
variable {P : Program} {w : World} {K : PySem.W.Frag} {mg : Str → Option Value} {base : Heap}
theorem ok_breaks {f : Addr} {fd : FuncData} (F : Fun K "breaks" "breaks" s_breaks f fd) : FnOk P w K mg base CX0 1 f fd ["sides", "tie"] spBreaks := by
  refine F.ok sc_breaks (fun vs H Q E h => ?_) (fun cdv A outer s H vs Q E hr h => ?_)
  · obtain ⟨a, b, ss, t, rfl, _⟩ := h
    rfl
  · obtain ⟨a, b, ss, t, rfl, ha, hb, ok, q⟩ := h
    refine ⟨_, (pss_cons (ps_asg (pv 1) (pg_tup rfl (pgs_cons (pg_name (i := 2) sc_breaks.nd rfl (.inl rfl)) (pgs_cons (pg_name (i := 3) sc_breaks.nd rfl (.inl rfl)) (pgs_cons (pg_name (i := 4) sc_breaks.nd rfl (.inl rfl)) pgs_nil)))))
      (pss_one (ps_ret (pe_cmpR op_eq (pe_cmpR op_eq (pe_ix ix_tup (pv 0) (pv 2) (fun _ _ => rfl)) (pe_ix ix_tup (pv 0) (pv 3) (fun _ _ => rfl)) (nomark _)) (pe_cmpR op_eq (pv 4) pe_str (nomark _)) (nomark _))))), ?_⟩
    refine ⟨.ref b, rfl, b, _, rfl, SqT.of hb, rfl, _, _, rfl, _, _, rfl, _, _, rfl, rfl, ?_⟩
    refine ⟨.ref a, rfl, .int t.one, rfl, a, _, t.one, _, rfl, rfl, SqT.of ha, atI_sd ok.1 ok.2.1, .ref a, rfl, .int t.other, rfl, a, _, t.other, _, rfl, rfl, SqT.of ha, atI_sd ok.2.2.1 ok.2.2.2.1, rfl, .str (kindS t.foe), rfl, rfl, rfl, ?_⟩
    rw [eq_brk]
    exact q
end
/-! ### sides put over -/
def Bin (ss : List Int) : Prop := ∀ x ∈ ss, x = 0 ∨ x = 1
theorem sd_get {ss : List Int} {i : Int} (h0 : 0 ≤ i) (h1 : i < ss.length) : ∃ h : i.toNat < ss.length, sd ss i = ss[i.toNat] := by
  have h : i.toNat < ss.length := by omega
  refine ⟨h, ?_⟩
  unfold sd
  rw [List.getD_eq_getElem?_getD, List.getElem?_eq_getElem h]
  rfl
theorem sd_bin {ss : List Int} (b : Bin ss) {i : Int} (h0 : 0 ≤ i) (h1 : i < ss.length) : sd ss i = 0 ∨ sd ss i = 1 := by
  obtain ⟨h, e⟩ := sd_get h0 h1
  rw [e]
  exact b _ (List.getElem_mem h)
def over (ss : List Int) : List Int := ss.map fun s => 1 - s
theorem sd_over {ss : List Int} {i : Int} (h0 : 0 ≤ i) (h1 : i < ss.length) : sd (over ss) i = 1 - sd ss i := by
  obtain ⟨h, e⟩ := sd_get h0 h1
  obtain ⟨h', e'⟩ := sd_get (ss := over ss) h0 (by unfold over; rw [List.length_map]; exact h1)
  rw [e, e']
  simp [over]
theorem brk_over {ss : List Int} {t : Tie} (ok : TieOk ss.length t) : brk (over ss) t = brk ss t := by
  unfold brk
  rw [sd_over ok.1 ok.2.1, sd_over ok.2.2.1 ok.2.2.2.1]
  congr 1
  rw [decide_eq_decide]
  omega
theorem tieAt_mem {ts : List Tie} {i : Int} (h : i ∈ rng ts.length) : tieAt ts i ∈ ts := by
  rw [mem_rng] at h
  have h' : i.toNat < ts.length := by omega
  unfold tieAt
  rw [List.getD_eq_getElem?_getD, List.getElem?_eq_getElem h']
  exact List.getElem_mem h'
theorem bad_over {ss : List Int} {ts : List Tie} (ok : ∀ t ∈ ts, TieOk ss.length t) : bad (over ss) ts = bad ss ts := by
  unfold bad badTo
  exact List.filter_congr fun i hi => brk_over (ok _ (tieAt_mem hi))
def moved (ss : List Int) (p : Int) : List Int := ss.set p.toNat (1 - sd ss p)
theorem moved_len (ss : List Int) (p : Int) : (moved ss p).length = ss.length := by unfold moved; rw [List.length_set]
theorem sd_moved {ss : List Int} {p i : Int} (p0 : 0 ≤ p) (p1 : p < ss.length) (h0 : 0 ≤ i) (h1 : i < ss.length) : sd (moved ss p) i = if i = p then 1 - sd ss p else sd ss i := by
  show (ss.set p.toNat (1 - sd ss p)).getD i.toNat 0 = _
  rw [List.getD_eq_getElem?_getD, List.getElem?_set]
  by_cases hp : i = p
  · subst hp
    rw [if_pos rfl, if_pos (by omega), if_pos rfl]
    rfl
  · rw [if_neg (by omega), if_neg hp]
    unfold sd
    rw [List.getD_eq_getElem?_getD]
theorem brk_moved {ss : List Int} (b : Bin ss) {t : Tie} {p : Int} (ok : TieOk ss.length t) (p0 : 0 ≤ p) (p1 : p < ss.length) : brk (moved ss p) t = (brk ss t != (t.one == p || t.other == p)) := by
  unfold brk
  rw [sd_moved p0 p1 ok.1 ok.2.1, sd_moved p0 p1 ok.2.2.1 ok.2.2.2.1]
  have b1 := sd_bin b ok.1 ok.2.1
  have b2 := sd_bin b ok.2.2.1 ok.2.2.2.1
  have ne := ok.2.2.2.2
  by_cases h1 : t.one = p
  · have h2 : t.other ≠ p := fun z => ne (h1.trans z.symm)
    rw [if_pos h1, if_neg h2, ← h1]
    have e1 : (t.one == t.one) = true := by simp
    rw [e1, Bool.true_or]
    rcases b1 with e | e <;> rcases b2 with e' | e' <;> rw [e, e'] <;> cases t.foe <;> rfl
  · rw [if_neg h1]
    have e1 : (t.one == p) = false := by simp [h1]
    rw [e1, Bool.false_or]
    by_cases h2 : t.other = p
    · rw [if_pos h2, ← h2]
      have e2 : (t.other == t.other) = true := by simp
      rw [e2]
      rcases b1 with e | e <;> rcases b2 with e' | e' <;> rw [e, e'] <;> cases t.foe <;> rfl
    · rw [if_neg h2]
      have e2 : (t.other == p) = false := by simp [h2]
      rw [e2, Bool.bne_false]
theorem moved_cut {ss : List Int} {p : Int} (p0 : 0 ≤ p) (p1 : p < ss.length) : cutV (ss.map V.int) none (some p) ++ [V.int (1 - sd ss p)] ++ cutV (ss.map V.int) (some (p + 1)) none = (moved ss p).map V.int := by
  obtain ⟨k, rfl⟩ : ∃ k : Nat, p = k := ⟨p.toNat, by omega⟩
  have hk : k < ss.length := by omega
  have e1 : cutV (ss.map V.int) none (some (k : Int)) = (ss.take k).map V.int := by
    unfold cutV
    rw [HT.sIx_none, HT.sIx_nat, List.length_map, Nat.min_eq_left (by omega), List.drop_zero, List.map_take]
    rfl
  have e2 : cutV (ss.map V.int) (some ((k : Int) + 1)) none = (ss.drop (k + 1)).map V.int := by
    unfold cutV
    rw [HT.sIx_none, show ((k : Int) + 1) = ((k + 1 : Nat) : Int) from by omega, HT.sIx_nat, List.length_map, Nat.min_eq_left (by omega), List.map_drop]
    exact List.take_of_length_le (by rw [List.length_drop, List.length_map]; omega)
  rw [e1, e2]
  unfold moved
  rw [Int.toNat_natCast, List.set_eq_take_append_cons_drop, if_pos hk]
  simp
theorem in_bad {ss : List Int} {ts : List Tie} {i : Nat} (hi : i < ts.length) : inV (.int (i : Int)) ((bad ss ts).map V.int) = brk ss (tieAt ts i) := by
  rw [Bool.eq_iff_iff]
  unfold inV
  rw [List.any_map, List.any_eq_true]
  unfold bad badTo
  constructor
  · rintro ⟨x, hx, e⟩
    have e' : (x == (i : Int)) = true := e
    rw [beq_iff_eq] at e'
    subst e'
    exact (List.mem_filter.mp hx).2
  · intro h
    exact ⟨i, List.mem_filter.mpr ⟨mem_rng.mpr (by omega), h⟩, by show ((i : Int) == (i : Int)) = true; simp⟩
theorem flat_ints (xs : List Int) : (xs.map V.int).all flatV = true := by
  rw [List.all_map, List.all_eq_true]
  intro x _
  rfl
theorem in_two (p x y : Int) : inV (.int p) [.int x, .int y] = (x == p || y == p) := by
  show ((x == p) || ((y == p) || false)) = _
  rw [Bool.or_false]
theorem ne_bl (a b : Bool) : (!decide (V.bl a = V.bl b)) = (a != b) := by cases a <;> cases b <;> rfl
/-! ### weights of ties -/
def gW (ws : List Int) (x : Int) : Int := ws.getD x.toNat 0
def spWeightOf : Sp := fun vs H Q _ => (∃ i, vs = [.non, .int i] ∧ Q (.int 1) H) ∨ ∃ a xs i v, vs = [.ref a, .int i] ∧ H a = some (.tup xs) ∧ atI xs i = some v ∧ Q v H
/-- whose weights: of None each 1 -/
def Wts (H : Hp) (v : V) (ns : List Int) (g : Int → Int) : Prop := (v = .non ∧ ∀ x ∈ ns, g x = 1) ∨ ∃ a ws, v = .ref a ∧ H a = some (.tup (ws.map V.int)) ∧ ∀ x ∈ ns, (0 ≤ x ∧ x < (ws.length : Int)) ∧ g x = gW ws x
theorem Wts.tk {H H' : Hp} (k : Tk H H') {v : V} {ns : List Int} {g : Int → Int} (h : Wts H v ns g) : Wts H' v ns g := by
  rcases h with h | ⟨a, ws, e, h1, h2⟩
  · exact .inl h
  · exact .inr ⟨a, ws, e, k _ _ h1, h2⟩
def sumW (g : Int → Int) (ns : List Int) : Int := (ns.map g).sum
theorem sumW_snoc (g : Int → Int) (ns : List Int) (x : Int) : sumW g (ns ++ [x]) = sumW g ns + g x := by
  unfold sumW
  rw [List.map_append, List.sum_append]
  simp
theorem sumW_one {g : Int → Int} : ∀ {ns : List Int}, (∀ x ∈ ns, g x = 1) → sumW g ns = ns.length
  | [], _ => rfl
  | n :: ns, h => by
    have ih := sumW_one (ns := ns) fun x hx => h x (List.mem_cons_of_mem _ hx)
    unfold sumW at ih ⊢
    rw [List.map_cons, List.sum_cons, ih, h n (by simp), List.length_cons]
    omega
theorem gW_at {ws : List Int} {x : Int} (h0 : 0 ≤ x) (h1 : x < (ws.length : Int)) : atI (ws.map V.int) x = some (.int (gW ws x)) := by
  have h : x.toNat < ws.length := by omega
  refine atI_of h0 ?_
  unfold gW
  rw [List.getElem?_map, List.getD_eq_getElem?_getD, List.getElem?_eq_getElem h]
  rfl
section
variable {P : Program} {w : World} {K : PySem.W.Frag} {mg : Str → Option Value} {base : Heap}
theorem ok_weight_of {f : Addr} {fd : FuncData} (F : Fun K "weight_of" "weight_of" s_weight_of f fd) : FnOk P w K mg base CX0 1 f fd ["weights", "tie"] spWeightOf := by
  refine F.ok sc_weight_of (fun vs H Q E h => ?_) (fun cdv A outer s H vs Q E hr h => ?_)
  · rcases h with ⟨i, rfl, _⟩ | ⟨a, xs, i, v, rfl, _⟩ <;> rfl
  · refine ⟨_, (pss_cons (ps_if (pt_cmpR op_isN (pv 0) pe_non (nomark _))
        (pss_one (ps_ret pe_int))
        pss_nil)
      (pss_one (ps_ret (pe_ix ix_tup (pv 0) (pv 1) (fun _ _ => rfl))))), ?_⟩
    rcases h with ⟨i, rfl, q⟩ | ⟨a, xs, i, v, rfl, h1, h2, q⟩
    · exact ⟨.non, rfl, rfl, _, rfl, q⟩
    · exact ⟨.ref a, rfl, rfl, _, rfl, .ref a, rfl, .int i, rfl, a, xs, i, v, rfl, rfl, SqT.of h1, h2, q⟩
end
/-! ### things that are alike -/
def Lk (H : Hp) : Nat → V → V → Prop
  | 0, v, u => (∃ i, v = .int i ∧ u = .int i) ∨ (∃ z, v = .str z ∧ u = .str z)
  | k + 1, v, u => (∃ i, v = .int i ∧ u = .int i) ∨ (∃ z, v = .str z ∧ u = .str z) ∨
    ∃ a b xs ys, v = .ref a ∧ u = .ref b ∧ H a = some (.tup xs) ∧ H b = some (.tup ys) ∧ xs.length = ys.length ∧ xs.length ≤ 900 ∧ ∀ (i : Nat) x y, xs[i]? = some x → ys[i]? = some y → Lk H k x y
theorem Lk.tk {H H' : Hp} (t : Tk H H') : ∀ {k : Nat} {v u : V}, Lk H k v u → Lk H' k v u
  | 0, _, _, h => h
  | k + 1, _, _, h => by
    rcases h with h | h | ⟨a, b, xs, ys, e1, e2, h1, h2, h3, h4, h5⟩
    · exact .inl h
    · exact .inr (.inl h)
    · exact .inr (.inr ⟨a, b, xs, ys, e1, e2, t _ _ h1, t _ _ h2, h3, h4, fun i x y g1 g2 => Lk.tk t (h5 i x y g1 g2)⟩)
theorem Lk.int {H : Hp} {k : Nat} {i : Int} : Lk H k (.int i) (.int i) := by
  cases k with
  | zero => exact .inl ⟨i, rfl, rfl⟩
  | succ k => exact .inl ⟨i, rfl, rfl⟩
theorem Lk.str {H : Hp} {k : Nat} {z : Str} : Lk H k (.str z) (.str z) := by
  cases k with
  | zero => exact .inr ⟨z, rfl, rfl⟩
  | succ k => exact .inr (.inl ⟨z, rfl, rfl⟩)
theorem tie_lk {H : Hp} {v u : V} {t : Tie} (h : TieV H v t) (g : TieV H u t) : Lk H 1 v u := by
  obtain ⟨a, rfl, ha⟩ := h
  obtain ⟨b, rfl, hb⟩ := g
  refine .inr (.inr ⟨a, b, _, _, rfl, rfl, ha, hb, rfl, by show 3 ≤ 900; decide, fun i x y g1 g2 => ?_⟩)
  match i with
  | 0 => simp at g1 g2; subst g1 g2; exact Lk.int
  | 1 => simp at g1 g2; subst g1 g2; exact Lk.int
  | 2 => simp at g1 g2; subst g1 g2; exact Lk.str
  | i + 3 => simp at g1
theorem web_lk {H : Hp} {v u : V} {n : Int} {ts : List Tie} (h : WebAt H v n ts) (g : WebAt H u n ts) (few : ts.length ≤ 120) : Lk H 3 v u := by
  obtain ⟨a, a2, vs, rfl, h1, h2, h3⟩ := h
  obtain ⟨b, b2, us, rfl, g1, g2, g3⟩ := g
  refine .inr (.inr ⟨a, b, _, _, rfl, rfl, h1, g1, rfl, by show 2 ≤ 900; decide, fun i x y e1 e2 => ?_⟩)
  match i with
  | 0 => simp at e1 e2; subst e1 e2; exact Lk.int
  | 1 =>
    simp at e1 e2
    subst e1 e2
    have l1 := Paired.length h3
    have l2 := Paired.length g3
    refine .inr (.inr ⟨a2, b2, _, _, rfl, rfl, h2, g2, by omega, by omega, fun i x y e1 e2 => ?_⟩)
    obtain ⟨t, f1, f2⟩ := Paired.at h3 e1
    obtain ⟨t', f3, f4⟩ := Paired.at g3 e2
    rw [f1] at f3
    cases f3
    exact tie_lk f2 f4
  | i + 2 => simp at e1
theorem ints_lk {H : Hp} {a b : Addr} {xs : List Int} (h : H a = some (.tup (xs.map V.int))) (g : H b = some (.tup (xs.map V.int))) (few : xs.length ≤ 900) : Lk H 1 (.ref a) (.ref b) := by
  refine .inr (.inr ⟨a, b, _, _, rfl, rfl, h, g, rfl, by rw [List.length_map]; exact few, fun i x y e1 e2 => ?_⟩)
  rw [e1] at e2
  cases e2
  rw [List.getElem?_map] at e1
  obtain ⟨z, _, rfl⟩ := Option.map_eq_some_iff.mp e1
  exact Lk.int
def spSame : Nat → Sp
  | 0 => fun _ _ _ _ => False
  | k + 1 => fun vs H Q _ => ∃ v u, vs = [v, u] ∧ Lk H k v u ∧ ∀ H', Same H H' → Q (.bl true) H'
def isS : V → Bool
  | .str _ => true
  | _ => false
theorem kn_str {K : PySem.W.Frag} {H : Hp} {v : V} (h : Kn H v) : ∃ t, TyX K H v t ∧ PySem.W.kitOne K t (.type "str") = some (isS v) := by
  cases v with
  | non => exact ⟨_, .base .non, kit_ty (r := false) (by decide +kernel)⟩
  | bl b => exact ⟨_, .base (.bl b), kit_ty (r := false) (by decide +kernel)⟩
  | int i => exact ⟨_, .base (.int i), kit_ty (r := false) (by decide +kernel)⟩
  | str x => exact ⟨_, .base (.str x), kit_ty (r := true) (by decide +kernel)⟩
  | ref a =>
    rcases h with ⟨xs, h⟩ | ⟨xs, h⟩ | ⟨xs, h⟩
    · exact ⟨_, .base (.lst h), kit_ty (r := false) (by decide +kernel)⟩
    · exact ⟨_, .base (.tup h), kit_ty (r := false) (by decide +kernel)⟩
    · exact ⟨_, .base (.dK h), kit_ty (r := false) (by decide +kernel)⟩
  | byt b => exact h.elim
  | flt b => exact h.elim
  | ty n => exact h.elim
section
variable {P : Program} {w : World} {K : PySem.W.Frag} {mg : Str → Option Value} {base : Heap}
theorem ok_l_same {f : Addr} {fd : FuncData} (F : Fun K "_law_same" "_law_same" s_l_same f fd) (M : Free mg) (mall : mg "all" = none) (mzip : mg "zip" = none) (gS : mg "_law_same" = some (.ref f)) (bS : Binds K fd ["_law_found", "_law_due_here"] []) :
    ∀ k : Nat, FnOk P w K mg base CX0 k f fd ["_law_found", "_law_due_here"] (spSame k)
  | 0 => ⟨fun vs H Q E h => h.elim, fun B out z H ar us vs Q E _ _ _ _ h => h.elim⟩
  | k + 1 => by
    have GS := ok_l_same F M mall mzip gS bS k
    refine F.ok sc_l_same (fun vs H Q E h => ?_) (fun cdv A outer s H vs Q E hr h => ?_)
    · obtain ⟨v, u, rfl, _⟩ := h
      rfl
    · obtain ⟨v, u, rfl, hl, q⟩ := h
      refine ⟨_, (pss_cons (ps_if (pt_val (pe_callB call_isi (by rfl) M.isinstance (by decide +kernel) (pa_cons (pv 1) (pa_cons (pe_bltn (v := .ty "tuple") (by rfl) M.tuple (by decide +kernel) rfl) pa_nil))))
        (pss_cons (ps_if (PW.pt (pw_or (pt_not (pt_val (pe_callB call_isi (by rfl) M.isinstance (by decide +kernel) (pa_cons (pv 0) (pa_cons (pe_bltn (v := .ty "tuple") (by rfl) M.tuple (by decide +kernel) rfl) pa_nil))))) (pw_or1 (pt_cmpR op_ne (pe_callB call_len_seq (by rfl) M.len PySem.boot_len (pa_cons (pv 0) pa_nil)) (pe_callB call_len_seq (by rfl) M.len PySem.boot_len (pa_cons (pv 1) pa_nil)) (nomark _)))))
          (pss_one (ps_ret pe_bl))
          pss_nil)
        (pss_one (ps_ret (pe_callB (cr_all rfl) (by rfl) mall (by decide +kernel) (pa_cons (pe_lc (own := [("_law_one", 2), ("_law_other", 3)]) (g := gTup K 2 (gCons (gName 2) (gCons (gName 3) gNil))) (tt := tYes) rfl sc_l_same.nd (RZ.pi_zipA (by rfl) mzip (pa_cons (pv 0) (pa_cons (pv 1) pa_nil))) (blkOk_by (N := N_l_same) (sc := defScope s_l_same) (own := [("_law_one", 2), ("_law_other", 3)]) (by decide +kernel)) (fun _ _ _ _ _ => (pg_tup rfl (pgs_cons (pg_name (i := 2) sc_l_same.nd rfl (.inl rfl)) (pgs_cons (pg_name (i := 3) sc_l_same.nd rfl (.inl rfl)) pgs_nil)))) (fun _ _ _ _ _ => pts_nil) (fun _ _ _ _ _ => (pe_call GS hr (by rfl) gS F.kp bS .nil pass0 (pa_cons (pv 2) (pa_cons (pv 3) pa_nil))))) pa_nil)))))
        pss_nil)
      (pss_cons (ps_if (PW.pt (pw_or (pt_val (pe_callB call_isi (by rfl) M.isinstance (by decide +kernel) (pa_cons (pv 1) (pa_cons (pe_bltn (v := .ty "bool") (by rfl) M.bool (by decide +kernel) rfl) pa_nil)))) (pw_or1 (pt_val (pe_callB call_isi (by rfl) M.isinstance (by decide +kernel) (pa_cons (pv 0) (pa_cons (pe_bltn (v := .ty "bool") (by rfl) M.bool (by decide +kernel) rfl) pa_nil)))))))
        (pss_one (ps_ret (pe_and (pe_callB call_isi (by rfl) M.isinstance (by decide +kernel) (pa_cons (pv 1) (pa_cons (pe_bltn (v := .ty "bool") (by rfl) M.bool (by decide +kernel) rfl) pa_nil))) (pe_and (pe_callB call_isi (by rfl) M.isinstance (by decide +kernel) (pa_cons (pv 0) (pa_cons (pe_bltn (v := .ty "bool") (by rfl) M.bool (by decide +kernel) rfl) pa_nil))) (pe_one (pe_cmpR op_eq (pv 0) (pv 1) (nomark _)))))))
        pss_nil)
      (pss_cons (ps_if (pt_val (pe_callB call_isi (by rfl) M.isinstance (by decide +kernel) (pa_cons (pv 1) (pa_cons (pe_bltn (v := .ty "int") (by rfl) M.int (by decide +kernel) rfl) pa_nil))))
        (pss_one (ps_ret (pe_and (pe_callB call_isi (by rfl) M.isinstance (by decide +kernel) (pa_cons (pv 0) (pa_cons (pe_bltn (v := .ty "int") (by rfl) M.int (by decide +kernel) rfl) pa_nil))) (pe_one (pe_cmpR op_eq (pv 0) (pv 1) (nomark _))))))
        pss_nil)
      (pss_one (ps_ret (pe_and (pe_cmpR op_eq (pv 0) (pv 1) (nomark _)) (pe_one (pe_cmpR op_eq (pe_callB call_isi (by rfl) M.isinstance (by decide +kernel) (pa_cons (pv 0) (pa_cons (pe_bltn (v := .ty "str") (by rfl) M.str (by decide +kernel) rfl) pa_nil))) (pe_callB call_isi (by rfl) M.isinstance (by decide +kernel) (pa_cons (pv 1) (pa_cons (pe_bltn (v := .ty "str") (by rfl) M.str (by decide +kernel) rfl) pa_nil))) (nomark _))))))))), ?_⟩
      have leaf : (∃ i, v = .int i ∧ u = .int i) ∨ (∃ z, v = .str z ∧ u = .str z) ∨ (∃ (j : Nat) (_ : k = j + 1) (a b : Addr) (xs ys : List V), v = .ref a ∧ u = .ref b ∧ H a = some (.tup xs) ∧ H b = some (.tup ys) ∧ xs.length = ys.length ∧ xs.length ≤ 900 ∧ ∀ (i : Nat) x y, xs[i]? = some x → ys[i]? = some y → Lk H j x y) := by
        cases k with
        | zero =>
          rcases hl with h | h
          · exact .inl h
          · exact .inr (.inl h)
        | succ j =>
          rcases hl with h | h | ⟨a, b, xs, ys, h⟩
          · exact .inl h
          · exact .inr (.inl h)
          · exact .inr (.inr ⟨j, rfl, a, b, xs, ys, h⟩)
      rcases leaf with ⟨i, rfl, rfl⟩ | ⟨z, rfl, rfl⟩ | ⟨j, rfl, a, b, xs, ys, rfl, rfl, ha, hb, hlen, few, hh⟩
      · obtain ⟨t1, h1, e1⟩ := kn_tup (K := K) (H := H) (v := .int i) trivial
        obtain ⟨t2, h2, e2⟩ := kn_bool (K := K) (H := H) (v := .int i) trivial
        obtain ⟨t3, h3, e3⟩ := kn_int (K := K) (H := H) (v := .int i) trivial
        refine ⟨.int i, rfl, .int i, _, t1, _, _, rfl, .ty "tuple", h1, e1, _, rfl, ?_⟩
        refine ⟨.int i, rfl, .int i, _, t2, _, _, rfl, .ty "bool", h2, e2, _, rfl, .int i, rfl, .int i, _, t2, _, _, rfl, .ty "bool", h2, e2, _, rfl, ?_⟩
        refine ⟨.int i, rfl, .int i, _, t3, _, _, rfl, .ty "int", h3, e3, _, rfl, ?_⟩
        refine ⟨.int i, rfl, .int i, _, t3, _, _, rfl, .ty "int", h3, e3, _, rfl, .int i, rfl, .int i, rfl, rfl, ?_⟩
        rw [decide_eq_true rfl]
        exact q _ (Same.refl H)
      · obtain ⟨t1, h1, e1⟩ := kn_tup (K := K) (H := H) (v := .str z) trivial
        obtain ⟨t2, h2, e2⟩ := kn_bool (K := K) (H := H) (v := .str z) trivial
        obtain ⟨t3, h3, e3⟩ := kn_int (K := K) (H := H) (v := .str z) trivial
        obtain ⟨t4, h4, e4⟩ := kn_str (K := K) (H := H) (v := .str z) trivial
        refine ⟨.str z, rfl, .str z, _, t1, _, _, rfl, .ty "tuple", h1, e1, _, rfl, ?_⟩
        refine ⟨.str z, rfl, .str z, _, t2, _, _, rfl, .ty "bool", h2, e2, _, rfl, .str z, rfl, .str z, _, t2, _, _, rfl, .ty "bool", h2, e2, _, rfl, ?_⟩
        refine ⟨.str z, rfl, .str z, _, t3, _, _, rfl, .ty "int", h3, e3, _, rfl, ?_⟩
        refine ⟨.str z, rfl, .str z, rfl, rfl, _, rfl, ?_⟩
        rw [decide_eq_true rfl]
        refine ⟨.str z, rfl, .str z, _, t4, _, _, rfl, .ty "str", h4, e4, .str z, rfl, .str z, _, t4, _, _, rfl, .ty "str", h4, e4, rfl, ?_⟩
        rw [decide_eq_true rfl]
        exact q _ (Same.refl H)
      · obtain ⟨t1, h1, e1⟩ := kn_tup (K := K) (H := H) (v := .ref b) (.inr (.inl ⟨_, hb⟩))
        obtain ⟨t2, h2, e2⟩ := kn_tup (K := K) (H := H) (v := .ref a) (.inr (.inl ⟨_, ha⟩))
        rw [isT_of hb] at e1
        rw [isT_of ha] at e2
        refine ⟨.ref b, rfl, .ref b, _, t1, _, _, rfl, .ty "tuple", h1, e1, _, rfl, ?_⟩
        refine ⟨.ref a, rfl, .ref a, _, t2, _, _, rfl, .ty "tuple", h2, e2, _, rfl, ?_⟩
        refine ⟨.ref a, rfl, a, xs, rfl, .inr (SqT.of ha), .ref b, rfl, b, ys, rfl, .inr (SqT.of hb), rfl, _, rfl, ?_⟩
        rw [hlen, decide_eq_true rfl]
        refine ⟨.ref a, rfl, .ref b, rfl, a, b, xs, ys, rfl, .inr ⟨SqT.of ha, SqT.of hb, fun Z nZ => ?_⟩⟩
        refine lc_it (walk_zipT (xs := xs) (ys := ys) (n := xs.length) (by omega)) (fun i H' => H' Z = some (.lst ((List.replicate i true).map V.bl)) ∧ Same H H') ⟨upd_same, same_new nZ⟩ (fun i H' _ h => ⟨SqT.of (h.2 _ _ ha), SqT.of (h.2 _ _ hb)⟩) ?_ ?_
        · rintro i x H1 H2 hi ⟨hZ, s1⟩ ⟨T, x1, y1, rfl, nT, rfl, g1, g2⟩
          have s2 := s1.trans (same_new (o := .tup [x1, y1]) nT)
          have hZ2 := same_new (o := .tup [x1, y1]) nT _ _ hZ
          refine ⟨T, _, rfl, SqT.of upd_same, rfl, _, _, rfl, _, _, rfl, rfl, rfl, x1, rfl, y1, rfl, x1, y1, rfl, (hh i x1 y1 g1 g2).tk (Same.tk s2), fun H3 s3 => ?_⟩
          refine ⟨_, s3 _ _ hZ2, by rw [List.length_map, List.length_replicate]; exact small1000 (by omega), ?_, Same.mut (s2.trans s3) nZ⟩
          rw [upd_same, List.replicate_succ', List.map_append]
          rfl
        · rintro H1 ⟨hZ, s1⟩
          refine ⟨Z, _, rfl, SqL.of hZ, ?_⟩
          have ea : (List.replicate xs.length true).all id = true := by
            rw [List.all_eq_true]
            intro x hx
            rw [List.eq_of_mem_replicate hx]
            rfl
          rw [ea]
          exact q _ s1
end
/-! ### own rules: max of a tuple, t.index, o[i] of a list by values, t * k -/
section
variable {X : Cx}
def rMaxT (K : PySem.W.Frag) : List V → Hp → VK → Prop := fun vs H Q => ∃ (a : Addr) (ns : List Int), vs = [V.ref a] ∧ SqT K H a (ns.map V.int) ∧ 0 < ns.length ∧ ∀ m, m ∈ ns → (∀ y, y ∈ ns → y ≤ m) → Q (.int m) H
theorem foldl_max : ∀ (ns : List Int) (n : Int), ns.foldl max n ∈ n :: ns ∧ ∀ y ∈ n :: ns, y ≤ ns.foldl max n
  | [], n => ⟨by simp, fun y hy => by simp at hy; rw [hy]; exact Int.le_refl _⟩
  | x :: xs, n => by
    obtain ⟨h1, h2⟩ := foldl_max xs (max n x)
    rw [List.foldl_cons]
    refine ⟨?_, fun y hy => ?_⟩
    · rcases List.mem_cons.mp h1 with e | e
      · rw [e]
        by_cases h : n ≤ x
        · rw [Int.max_eq_right h]; simp
        · rw [Int.max_eq_left (by omega)]; simp
      · exact List.mem_cons_of_mem _ (List.mem_cons_of_mem _ e)
    · have h3 := h2 (max n x) (by simp)
      rcases List.mem_cons.mp hy with e | e
      · subst e
        omega
      · rcases List.mem_cons.mp e with e | e
        · subst e
          omega
        · exact h2 y (List.mem_cons_of_mem _ e)
theorem dp_intsX {K : PySem.W.Frag} {H : Hp} : ∀ (xs : List Int), DpAll K H (xs.map V.int) (xs.map PyData.int)
  | [] => .nil
  | x :: xs => .cons (.int x) (dp_intsX xs)
theorem depth_intsX : ∀ xs : List Int, PyData.depthAll (xs.map PyData.int) = 0
  | [] => by simp [PyData.depthAll]
  | x :: xs => by simp [PyData.depthAll, PyData.depth, depth_intsX xs]
theorem cr_maxT (hc : X.calm = true) (hu : X.A.units + 65 < cLine) : CallR X (.builtin "max") (rMaxT X.K) := by
  intro pins s σ H vs us Q I r h
  obtain ⟨a, ns, rfl, hs, hne, q⟩ := h
  obtain ⟨its, rv, hl, _⟩ := I.tuple hs
  rw [Vals.ref1 r]
  obtain ⟨as, rs⟩ := Dp.readsAll I _ _ _ (dp_intsX ns) rv
  cases ns with
  | nil => exact absurd hne (by simp)
  | cons n ns =>
    have al : PySem.W.AlikeAll ((n :: ns).map PyData.int) := by
      refine ⟨fun x hx y hy => ?_, fun x hx => ?_⟩
      · obtain ⟨i, _, rfl⟩ := List.mem_map.mp hx
        obtain ⟨j, _, rfl⟩ := List.mem_map.mp hy
        rfl
      · obtain ⟨i, _, rfl⟩ := List.mem_map.mp hx
        intro z
        cases z
    refine PySem.W.max_tuple_data (x := .int n) (xs := ns.map PyData.int) (as := as) (I.ok.hd hc) hl (by simpa using rs) (by simpa using al) (by have := depth_intsX (n :: ns); rw [List.map_cons] at this; rw [this]; omega) fun i v h' tk bs _ rd hk => ?_
    rw [PySem.W.maxD_ints] at rd
    cases rd with
    | int _ t =>
      have f := foldl_max ns n
      exact ⟨.int _, H, I.kept hk, ⟨_, rfl⟩, q _ f.1 f.2⟩
def rGetL (K : PySem.W.Frag) : V → V → Hp → VK → Prop := fun x y H Q => ∃ p xs i v, x = .ref p ∧ y = .int i ∧ SqL K H p xs ∧ 0 ≤ i ∧ atI xs i = some v ∧ Q v H
theorem get_list : PGet X (rGetL X.K) := by
  intro pins s σ H x y v u Q I rx ry h
  obtain ⟨p, xs, i, z, rfl, rfl, hq, h0, he, q⟩ := h
  cases rx
  obtain ⟨t, rfl⟩ := ry
  obtain ⟨its, r, pl, hz⟩ := I.list hq
  obtain ⟨j, h1, h2, h3, h4, h5⟩ := atI_get he
  obtain ⟨w, ew, rw'⟩ := r.get h2
  have hl := r.length
  have hn := line63
  have hj : i.toNat = j := by
    rw [seqIndex_of h0 h5] at h1
    exact Option.some.inj h1
  exact wpAny_getItem_list pl.isList h0 (by omega) (by rw [hj]; simpa using ew) ⟨z, H, I, rw', q⟩
theorem tuple_mul1 (l : Addr) (items : Array Value) (n : Nat) (dd : Option Addr) (sl : Array (Option Value)) (u : Tok) :
    Meets (Builtin.«tuple.__mul__» ⟨[.ref l, .int 1 u], []⟩) (fun _ R s => s.heap.get? l = some { cls := .type "tuple", dict := dd, data := .seq items n, slots := sl } ∧ R (.ok (.ret (Value.ref l))) s) :=
  .of_wp fun prog w A R s h => by
    obtain ⟨hp, g, d, tk, os⟩ := s
    obtain ⟨hl, h⟩ := h
    have f1 := AutoSeq1.idx_int
    have c1 : (items.isEmpty || (1 : Int) == 1) = true := by cases items.isEmpty <;> rfl
    wp_walk using wpAny_loadPart' hl
    repeat (first
      | (refine wpAny_ite_true (decide_eq_true c1) ?_; wp_walk using wpAny_loadPart' hl))
    exact ⟨_, rfl, h⟩
def rRepU : R2 := fun x y H Q => ∃ l k xs, x = .ref l ∧ y = .int k ∧ H l = some (.tup xs) ∧ xs ≠ [] ∧ 1 ≤ k ∧ k ≤ 1000 ∧ xs.length ≤ 1000 ∧ ∀ r H', Same H H' → H' r = some (.tup (List.replicate k.toNat xs).flatten) → Q (.ref r) H'
theorem op_repU : OpR X (binaryOp .Mult) rRepU := by
  intro pins s σ H x y v u Q I rx ry h
  obtain ⟨l, k, xs, rfl, rfl, hT, hne, h1, h2, hz, q⟩ := h
  by_cases hk : k = 1
  · subst hk
    cases rx
    obtain ⟨t, rfl⟩ := ry
    obtain ⟨its, r, ⟨⟨cls, dd, data, sl⟩, ho, hc, n, hd⟩, hs⟩ := I.tuple (SqT.of (K := X.K) hT)
    simp only at hc hd
    subst hc hd
    refine wpAny_binaryOp_repeat_ref (T := "tuple") (U := "int") (by decide) ⟨_, ho, rfl⟩ (fun s' => typeIs_int s' 1 t) noFill_tuple_mul F.fills_int_mul F.slot_int_rmul repeat_tuple F.slot_int_index.lookup
      (call_meets F.slot_int_rmul (typeIs_int s 1 t) F.entry_int_rmul (F.args_int_rmul_2 _ _) (int_rmul_tuple 1 t l its.toArray n dd sl)
        ⟨ho, rfl, ⟨_, ho, rfl⟩, call_meets F.slot_tuple_mul ⟨_, ho, rfl⟩ F.entry_tuple_mul (F.args_tuple_mul_2 _ _) (tuple_mul1 l its.toArray n dd sl t) ⟨ho, ?_⟩⟩)
    exact ⟨.ref l, H, I, rfl, q l H (Same.refl H) (by simpa using hT)⟩
  · exact op_repT pins s σ H _ _ v u Q I rx ry ⟨l, k, xs, rfl, rfl, SqT.of hT, hne, by omega, h2, hz, fun p np => q p _ (same_new np) upd_same⟩
def rIdxT (K : PySem.W.Frag) : V → List V → Hp → VK → Prop := fun x xs H Q => ∃ (p : Addr) (ns : List Int) (k : Int) (j : Nat), x = .ref p ∧ xs = [.int k] ∧ SqT K H p (ns.map V.int) ∧ ns[j]? = some k ∧ (∀ m, m < j → ns[m]? ≠ some k) ∧ Q (.int (j : Nat)) H
theorem mt_tidx : MtR X "tuple.index" (rIdxT X.K) := by
  intro pins s σ H x xs v us Q I rx rs h
  obtain ⟨p, ns, z, j, rfl, rfl, hq, hy, hno, q⟩ := h
  cases rx
  obtain ⟨u, rfl, t, rfl⟩ := vals1 rs
  obtain ⟨its, r, pl, hz⟩ := I.tuple hq
  obtain ⟨⟨cls, dd, dt, sl⟩, ho, hc, n, hd⟩ := pl
  simp only at hc hd
  subst hc
  subst hd
  have hl : its.toArray.size = ns.length := by rw [List.size_toArray, ← r.length, List.length_map]
  have hj : j < its.toArray.size := by rw [hl]; exact (List.getElem?_eq_some_iff.mp hy).1
  have hi := ints_of_vals r
  have at' : ∀ (m : Nat) (hm : m < its.toArray.size), ∃ y t', ns[m]? = some y ∧ its.toArray[m] = Value.int y t' := fun m hm => by
    have hm' : m < ns.length := by rw [← hl]; exact hm
    obtain ⟨w, hw, t', hw'⟩ := r.get (i := m) (x := .int ns[m]) (by simp [hm'])
    refine ⟨ns[m], t', List.getElem?_eq_getElem hm', ?_⟩
    have e := (List.getElem?_eq_some_iff.mp hw).2
    rw [← hw', ← e]
    simp
  have ek : ∀ (y : Int) (t' : Tok), eqk z (Value.int y t') = decide (y = z) := fun y t' => by
    show (y == z) = _
    by_cases h : y = z
    · rw [decide_eq_true h, h]; simp
    · rw [decide_eq_false h]; simp [h]
  refine call_meets PySem.F.slot_tuple_index ⟨_, ho, rfl⟩ PySem.F.entry_tuple_index (PySem.F.args_tuple_index_2 _ _) (TI.tuple_indexAt p its.toArray n dd sl (.int z t) (eqk z) j hj ?_ ?_)
    ⟨ho, fun y hy => (eqk_gives hi y (by simpa using hy)).at _ _, ⟨.int (j : Nat), H, I.tok _, ⟨_, rfl⟩, q⟩⟩
  · obtain ⟨y, t', h1, h2⟩ := at' j hj
    rw [hy] at h1
    cases h1
    rw [h2, ek]
    exact decide_eq_true rfl
  · intro m hm hmj
    obtain ⟨y, t', h1, h2⟩ := at' m hm
    rw [h2, ek]
    refine decide_eq_false fun e => hno m hmj ?_
    rw [h1, e]
end
/-! ### leans: the mathematics -/
def has (t : Tie) (p : Int) : Bool := t.one == p || t.other == p
def con (g : Int → Int) (ss : List Int) (ts : List Tie) (i p : Int) : Int := if has (tieAt ts i) p = true then (if brk ss (tieAt ts i) = true then g i else - g i) else 0
def leanTo (g : Int → Int) (ss : List Int) (ts : List Tie) : Nat → Int → Int
  | 0, _ => 0
  | k + 1, p => leanTo g ss ts k p + con g ss ts k p
def lean (g : Int → Int) (ss : List Int) (ts : List Tie) (p : Int) : Int := leanTo g ss ts ts.length p
def badW (g : Int → Int) (ss : List Int) (ts : List Tie) (k : Nat) : Int := sumW g (badTo ss ts k)
theorem badW_succ (g : Int → Int) (ss : List Int) (ts : List Tie) (k : Nat) : badW g ss ts (k + 1) = badW g ss ts k + (if brk ss (tieAt ts k) = true then g k else 0) := by
  unfold badW
  rw [badTo_succ]
  by_cases h : brk ss (tieAt ts k) = true
  · rw [if_pos h, if_pos h, sumW_snoc]
  · rw [if_neg h, if_neg h, List.append_nil]
    omega
theorem tieAt_ok {ts : List Tie} {n : Int} (ok : ∀ t ∈ ts, TieOk n t) {k : Nat} (h : k < ts.length) : TieOk n (tieAt ts k) := ok _ (tieAt_mem (mem_rng.mpr (by omega)))
theorem badW_moved {g : Int → Int} {ss : List Int} {ts : List Tie} {p : Int} (b : Bin ss) (ok : ∀ t ∈ ts, TieOk ss.length t) (p0 : 0 ≤ p) (p1 : p < ss.length) : ∀ k, k ≤ ts.length → badW g (moved ss p) ts k = badW g ss ts k - leanTo g ss ts k p
  | 0, _ => rfl
  | k + 1, h => by
    rw [badW_succ, badW_succ, badW_moved b ok p0 p1 k (by omega), brk_moved b (tieAt_ok ok (by omega)) p0 p1]
    show _ = _ - (leanTo g ss ts k p + con g ss ts k p)
    unfold con
    change _ + (if (brk ss (tieAt ts k) != has (tieAt ts k) p) = true then g k else 0) = _
    cases brk ss (tieAt ts k) <;> cases has (tieAt ts k) p <;> simp <;> omega
theorem lean_moved {g : Int → Int} {ss : List Int} {ts : List Tie} {p : Int} (b : Bin ss) (ok : ∀ t ∈ ts, TieOk ss.length t) (p0 : 0 ≤ p) (p1 : p < ss.length) : ∀ k, k ≤ ts.length → leanTo g (moved ss p) ts k p = - leanTo g ss ts k p
  | 0, _ => rfl
  | k + 1, h => by
    show leanTo g (moved ss p) ts k p + con g (moved ss p) ts k p = - (leanTo g ss ts k p + con g ss ts k p)
    rw [lean_moved b ok p0 p1 k (by omega)]
    unfold con
    rw [brk_moved b (tieAt_ok ok (by omega)) p0 p1]
    change _ + (if has (tieAt ts k) p = true then (if (brk ss (tieAt ts k) != has (tieAt ts k) p) = true then g k else - g k) else 0) = _
    cases brk ss (tieAt ts k) <;> cases has (tieAt ts k) p <;> simp <;> omega
theorem lean_over {g : Int → Int} {ss : List Int} {ts : List Tie} {p : Int} (ok : ∀ t ∈ ts, TieOk ss.length t) : ∀ k, k ≤ ts.length → leanTo g (over ss) ts k p = leanTo g ss ts k p
  | 0, _ => rfl
  | k + 1, h => by
    show leanTo g (over ss) ts k p + con g (over ss) ts k p = leanTo g ss ts k p + con g ss ts k p
    rw [lean_over ok k (by omega)]
    unfold con
    rw [brk_over (tieAt_ok ok (by omega))]
theorem has_iff {t : Tie} {p : Int} : has t p = true ↔ (t.one = p ∨ t.other = p) := by
  unfold has
  simp
/-- two places told anew, one behind the other -/
theorem lean_step {g : Int → Int} {ss : List Int} {ts : List Tie} {k : Nat} {t : Tie} (et : tieAt ts k = t) (ne : t.one ≠ t.other) {l : Int} (hl : l = if brk ss t = true then g k else - g k) :
    (fun x => if x = t.other then (if t.other = t.one then leanTo g ss ts k t.one + l else leanTo g ss ts k t.other) + l else if x = t.one then leanTo g ss ts k t.one + l else leanTo g ss ts k x) = leanTo g ss ts (k + 1) := by
  funext x
  show _ = leanTo g ss ts k x + con g ss ts k x
  unfold con
  rw [et, ← hl]
  by_cases h1 : x = t.other
  · subst h1
    rw [if_pos rfl, if_neg (fun z => ne z.symm), if_pos (has_iff.mpr (.inr rfl))]
  · rw [if_neg h1]
    by_cases h2 : x = t.one
    · subst h2
      rw [if_pos rfl, if_pos (has_iff.mpr (.inl rfl))]
    · rw [if_neg h2, if_neg (fun z => by rcases has_iff.mp z with z | z; exact h2 z.symm; exact h1 z.symm)]
      omega
/-! ### leans: the program's and the law's -/
theorem rep_lf (k : Nat) : (List.replicate k [V.int 0]).flatten = lf (fun _ => 0) k := by
  refine List.ext_getElem? fun j => ?_
  have e : (List.replicate k [V.int 0]).flatten = List.replicate k (V.int 0) := by
    induction k with
    | zero => rfl
    | succ k ih => rw [List.replicate_succ, List.flatten_cons, ih]; rfl
  rw [e]
  by_cases h : j < k
  · rw [lf_get? _ h, List.getElem?_replicate, if_pos h]
  · rw [List.getElem?_eq_none (by rw [List.length_replicate]; omega), List.getElem?_eq_none (by rw [lf_len]; omega)]
theorem lf_ints (f : Int → Int) (n : Nat) : lf f n = ((rng n).map f).map V.int := by
  unfold lf
  rw [List.map_map]
  rfl
def spLeans : Sp := fun vs H Q _ => ∃ (v wv : V) (a : Addr) (n : Int) (ts : List Tie) (ss : List Int) (g : Int → Int), vs = [v, wv, .ref a] ∧ WebAt H v n ts ∧ WebOk n ts ∧ Wts H wv (rng ts.length) g ∧ H a = some (.tup (ss.map V.int)) ∧ (ss.length : Int) = n ∧
  ∀ r H', Same H H' → NoD H' r (lf (lean g ss ts) n.toNat) → Q (.ref r) H'
def spLBroken : Sp := fun vs H Q _ => ∃ (v : V) (a : Addr) (n : Int) (ts : List Tie) (ss : List Int) (i : Nat), vs = [v, .ref a, .int i] ∧ WebAt H v n ts ∧ WebOk n ts ∧ H a = some (.tup (ss.map V.int)) ∧ (ss.length : Int) = n ∧ i < ts.length ∧ Q (.bl (brk ss (tieAt ts i))) H
def spLLean : Sp := fun vs H Q _ => ∃ (v wv : V) (a : Addr) (n : Int) (ts : List Tie) (ss : List Int) (g : Int → Int) (p : Int), vs = [v, wv, .ref a, .int p] ∧ WebAt H v n ts ∧ WebOk n ts ∧ Wts H wv (rng ts.length) g ∧ H a = some (.tup (ss.map V.int)) ∧ (ss.length : Int) = n ∧
  ∀ H', Same H H' → Q (.int (lean g ss ts p)) H'
theorem Wts.at {H : Hp} {wv : V} {m i : Nat} {g : Int → Int} (h : Wts H wv (rng m) g) (hi : i < m) : (wv = .non ∧ g i = 1) ∨ ∃ a xs, wv = .ref a ∧ H a = some (.tup xs) ∧ atI xs i = some (.int (g i)) := by
  rcases h with ⟨rfl, h⟩ | ⟨a, ws, rfl, h1, h2⟩
  · exact .inl ⟨rfl, h i (mem_rng.mpr (by omega))⟩
  · obtain ⟨b, e⟩ := h2 i (mem_rng.mpr (by omega))
    refine .inr ⟨a, _, rfl, h1, ?_⟩
    rw [e]
    exact gW_at b.1 b.2
section
variable {P : Program} {w : World} {K : PySem.W.Frag} {mg : Str → Option Value} {base : Heap}
theorem ok_leans {f : Addr} {fd : FuncData} (F : Fun K "leans" "leans" s_leans f fd) (M : Free mg) (me : mg "enumerate" = none) (DW : Df P w K mg base 1 "weight_of" ["weights", "tie"] spWeightOf) (DB : Df P w K mg base 1 "breaks" ["sides", "tie"] spBreaks) : FnOk P w K mg base CX0 2 f fd ["web", "weights", "sides"] spLeans := by
  obtain ⟨fW, fdW, GW, gW, kW, bW⟩ := DW
  obtain ⟨fB, fdB, GB, gB, kB, bB⟩ := DB
  refine F.ok sc_leans (fun vs H Q E h => ?_) (fun cdv A outer s H vs Q E hr h => ?_)
  · obtain ⟨v, wv, a, n, ts, ss, g, rfl, _⟩ := h
    rfl
  · obtain ⟨v, wv, a, n, ts, ss, g, rfl, ⟨wa, wb, us, rfl, hwa, hwb, hp⟩, ok, hw, ha, hl, q⟩ := h
    refine ⟨_, (pss_cons (ps_set (i := 3) sc_leans.nd rfl (.inl rfl) (pe_op op_rep (pe_lst (pa_cons pe_int pa_nil)) (pe_ix ix_tup (pv 0) pe_int (fun _ _ => rfl))))
      (pss_cons (ps_for PassesOwn.never rfl (pi_enumT (by rfl) me (pa_cons (pe_ix ix_tup (pv 0) pe_int (fun _ _ => rfl)) pa_nil)) (pg_tup rfl (pgs_cons (pg_name (i := 4) sc_leans.nd rfl (.inl rfl)) (pgs_cons (pg_name (i := 5) sc_leans.nd rfl (.inl rfl)) pgs_nil)))
        (Evl.pss_cut (ps_set (i := 6) sc_leans.nd rfl (.inl rfl) (pe_call GW hr (by rfl) gW kW bW .nil pass0 (pa_cons (pv 1) (pa_cons (pv 4) pa_nil))))
        (Evl.pss_cut (ps_set (i := 7) sc_leans.nd rfl (.inl rfl) (pe_ifExp (pt_val (pe_call GB hr (by rfl) gB kB bB .nil pass0 (pa_cons (pv 2) (pa_cons (pv 5) pa_nil)))) (pv 6) (pe_un un_neg (pv 6))))
        (pss_cons (ps_augS (pv 3) (pe_ix ix_tup (pv 5) pe_int (fun _ _ => rfl)) get_list (pv 7) ip_add set_list)
        (pss_one (ps_augS (pv 3) (pe_ix ix_tup (pv 5) pe_int (fun _ _ => rfl)) get_list (pv 7) ip_add set_list))))))
      (pss_one (ps_ret (pe_callTy call_tuple_ofZ (by rfl) M.tuple (by decide +kernel) (pa_cons (pv 3) pa_nil)))))), ?_⟩
    obtain ⟨k, rfl⟩ : ∃ k : Nat, n = k := ⟨n.toNat, by have := ok.lo; omega⟩
    have hk := ok.hi
    have few := ok.few
    have hlen : us.length = ts.length := Paired.length hp
    refine ⟨by show 1 ≤ sizeLine; decide, fun O nO => ?_⟩
    refine ⟨.ref wa, rfl, wa, _, 0, .int k, rfl, rfl, SqT.of (same_new nO _ _ hwa), rfl, O, k, _, rfl, rfl, upd_same, by omega, by omega, ?_, fun L nL => ?_⟩
    · rw [Int.toNat_natCast]
      exact Nat.le_of_lt (small1000 (by show 1 * k ≤ _; omega))
    rw [Int.toNat_natCast, rep_lf]
    have s0 : Same H (upd (upd H O (.lst [.int 0])) L (.lst (lf (fun _ => 0) k))) := (same_new nO).trans (same_new nL)
    have nL0 : H L = none := (same_new nO).free nL
    have hL0 : (upd (upd H O (.lst [.int 0])) L (.lst (lf (fun _ => 0) k))) L = some (.lst (lf (fun _ => 0) k)) := upd_same
    generalize upd (upd H O (.lst [.int 0])) L (.lst (lf (fun _ => 0) k)) = H0 at s0 hL0
    refine ⟨.ref wa, rfl, wa, _, 1, .ref wb, rfl, rfl, SqT.of (s0 _ _ hwa), rfl, wb, us, rfl, SqT.of (s0 _ _ hwb), ?_⟩
    refine for_it (walk_enumT (xs := us)) (fun i σ' H' => ∃ (y4 y5 y6 y7 : Option V), σ' = [some (.ref wa), some wv, some (.ref a), some (.ref L), y4, y5, y6, y7] ∧ H' L = some (.lst (lf (leanTo g ss ts i) k)) ∧ Same H H') ⟨none, none, none, none, rfl, hL0, s0⟩ (fun i σ' H' _ h => by
      obtain ⟨_, _, _, _, _, _, s3⟩ := h
      exact SqT.of (s3 _ _ hwb)) ?_ ?_
    · rintro i x σ' H2 H3 hi ⟨y4, y5, y6, y7, rfl, hL, s2⟩ ⟨T, x1, y1, rfl, nT, rfl, gx, gy⟩
      obtain rfl : V.int (i : Nat) = x1 := Option.some.inj gx
      obtain ⟨t, et, c, rfl, hc⟩ := Paired.at hp gy
      have okt := ok.ok t (List.mem_of_getElem? et)
      have sT := same_new (o := .tup [.int (i : Nat), .ref c]) nT
      have s3 := s2.trans sT
      have hL3 := sT _ _ hL
      refine ⟨T, _, rfl, SqT.of upd_same, rfl, _, _, rfl, _, _, rfl, rfl, ?_⟩
      generalize upd H2 T (.tup [.int (i : Nat), .ref c]) = H3 at s3 hL3
      refine ⟨fun σ' H' => σ' = [some (.ref wa), some wv, some (.ref a), some (.ref L), some (.int i), some (.ref c), some (.int (g i)), y7] ∧ H' = H3, ?_, ?_⟩
      · rcases (hw.tk (Same.tk s3)).at (i := i) (by omega) with ⟨rfl, e⟩ | ⟨wa', xs, rfl, e1, e2⟩
        · exact ⟨.non, rfl, .int i, rfl, .inl ⟨i, rfl, by rw [e]; rfl, rfl⟩⟩
        · exact ⟨.ref wa', rfl, .int i, rfl, .inr ⟨wa', xs, i, _, rfl, e1, e2, rfl, rfl⟩⟩
      rintro σ' H4 ⟨rfl, rfl⟩
      refine ⟨fun σ' H' => σ' = [some (.ref wa), some wv, some (.ref a), some (.ref L), some (.int i), some (.ref c), some (.int (g i)), some (.int (if brk ss t = true then g i else - g i))] ∧ H' = H4, ?_, ?_⟩
      · refine ⟨.ref a, rfl, .ref c, rfl, a, c, ss, t, rfl, s3 _ _ ha, s3 _ _ hc, by rw [hl]; exact okt, _, rfl, ?_⟩
        cases brk ss t with
        | true => exact ⟨.int (g i), rfl, rfl, rfl⟩
        | false => exact ⟨.int (g i), rfl, g i, rfl, rfl, rfl⟩
      rintro σ' H5 ⟨rfl, rfl⟩
      have et2 := tieAt_of et
      generalize hl' : (if brk ss t = true then g i else - g i) = l
      refine ⟨.ref L, rfl, .ref c, rfl, c, _, 0, _, rfl, rfl, SqT.of (s3 _ _ hc), rfl, L, _, t.one, _, rfl, rfl, SqL.of hL3, okt.1, lf_at _ okt.1 okt.2.1, .int l, rfl, _, l, rfl, rfl, L, _, t.one, t.one.toNat, rfl, rfl, hL3, by rw [lf_len]; exact ixN_of okt.1 okt.2.1, ?_⟩
      rw [lf_set _ okt.1 okt.2.1]
      have hc5 : (upd H5 L (.lst (lf (fun x => if x = t.one then leanTo g ss ts i t.one + l else leanTo g ss ts i x) k))) c = some (.tup [.int t.one, .int t.other, .str (kindS t.foe)]) := tk_lst hL3 _ _ (s3 _ _ hc)
      refine ⟨.ref L, rfl, .ref c, rfl, c, _, 1, _, rfl, rfl, SqT.of hc5, rfl, L, _, t.other, _, rfl, rfl, SqL.of upd_same, okt.2.2.1, lf_at _ okt.2.2.1 okt.2.2.2.1, .int l, rfl, _, l, rfl, rfl, L, _, t.other, t.other.toNat, rfl, rfl, upd_same, by rw [lf_len]; exact ixN_of okt.2.2.1 okt.2.2.2.1, ?_⟩
      rw [lf_set _ okt.2.2.1 okt.2.2.2.1, upd_upd, lean_step et2 okt.2.2.2.2 hl'.symm]
      exact ⟨_, _, _, _, rfl, upd_same, Same.mut s3 nL0⟩
    · rintro σ' H2 ⟨y4, y5, y6, y7, rfl, hL, s2⟩
      rw [hlen] at hL
      refine ⟨.ref L, rfl, L, _, rfl, SqL.of hL, fun r o od nr => ?_⟩
      exact q r _ (s2.trans (same_new nr)) (by rw [Int.toNat_natCast]; exact ⟨o, od, upd_same⟩)
theorem ok_l_weight {f : Addr} {fd : FuncData} (F : Fun K "_law_weight" "_law_weight" s_l_weight f fd) : FnOk P w K mg base CX0 1 f fd ["_law_weights_here", "_law_tie"] spWeightOf := by
  refine F.ok sc_l_weight (fun vs H Q E h => ?_) (fun cdv A outer s H vs Q E hr h => ?_)
  · rcases h with ⟨i, rfl, _⟩ | ⟨a, xs, i, v, rfl, _⟩ <;> rfl
  · refine ⟨_, (pss_cons (ps_if (pt_cmpR op_isN (pv 0) pe_non (nomark _))
        (pss_one (ps_ret pe_int))
        pss_nil)
      (pss_one (ps_ret (pe_ix ix_tup (pv 0) (pv 1) (fun _ _ => rfl))))), ?_⟩
    rcases h with ⟨i, rfl, q⟩ | ⟨a, xs, i, v, rfl, h1, h2, q⟩
    · exact ⟨.non, rfl, rfl, _, rfl, q⟩
    · exact ⟨.ref a, rfl, rfl, _, rfl, .ref a, rfl, .int i, rfl, a, xs, i, v, rfl, rfl, SqT.of h1, h2, q⟩
theorem ok_l_broken {f : Addr} {fd : FuncData} (F : Fun K "_law_broken" "_law_broken" s_l_broken f fd) : FnOk P w K mg base CX0 1 f fd ["_law_web_here", "_law_sides_here", "_law_tie"] spLBroken := by
  refine F.ok sc_l_broken (fun vs H Q E h => ?_) (fun cdv A outer s H vs Q E hr h => ?_)
  · obtain ⟨v, a, n, ts, ss, i, rfl, _⟩ := h
    rfl
  · obtain ⟨v, a, n, ts, ss, i, rfl, ⟨wa, wb, us, rfl, hwa, hwb, hp⟩, ok, ha, hl, hi, q⟩ := h
    refine ⟨_, (pss_cons (ps_asg (pe_ix ix_tup (pe_ix ix_tup (pv 0) pe_int (fun _ _ => rfl)) (pv 2) (fun _ _ => rfl)) (pg_tup rfl (pgs_cons (pg_name (i := 3) sc_l_broken.nd rfl (.inl rfl)) (pgs_cons (pg_name (i := 4) sc_l_broken.nd rfl (.inl rfl)) (pgs_cons (pg_name (i := 5) sc_l_broken.nd rfl (.inl rfl)) pgs_nil)))))
      (pss_one (ps_ret (pe_cmpR op_eq (pe_cmpR op_eq (pe_ix ix_tup (pv 1) (pv 3) (fun _ _ => rfl)) (pe_ix ix_tup (pv 1) (pv 4) (fun _ _ => rfl)) (nomark _)) (pe_cmpR op_eq (pv 5) pe_str (nomark _)) (nomark _))))), ?_⟩
    have hlen : us.length = ts.length := Paired.length hp
    obtain ⟨t, et⟩ : ∃ t, ts[i]? = some t := ⟨_, List.getElem?_eq_getElem hi⟩
    obtain ⟨u, eu, c, rfl, hc⟩ := Paired.at' hp et
    have okt := ok.ok t (List.mem_of_getElem? et)
    rw [← hl] at okt
    rw [tieAt_of et] at q
    refine ⟨.ref wa, rfl, wa, _, 1, .ref wb, rfl, rfl, SqT.of hwa, rfl, .int i, rfl, wb, us, i, _, rfl, rfl, SqT.of hwb, atI_nat eu, c, _, rfl, SqT.of hc, rfl, _, _, rfl, _, _, rfl, _, _, rfl, rfl, ?_⟩
    refine ⟨.ref a, rfl, .int t.one, rfl, a, _, t.one, _, rfl, rfl, SqT.of ha, atI_sd okt.1 okt.2.1, .ref a, rfl, .int t.other, rfl, a, _, t.other, _, rfl, rfl, SqT.of ha, atI_sd okt.2.2.1 okt.2.2.2.1, rfl, .str (kindS t.foe), rfl, rfl, rfl, ?_⟩
    rw [eq_brk]
    exact q
theorem ok_l_lean {f : Addr} {fd : FuncData} (F : Fun K "_law_lean" "_law_lean" s_l_lean f fd) (M : Free mg) (DW : Df P w K mg base 1 "_law_weight" ["_law_weights_here", "_law_tie"] spWeightOf) (DB : Df P w K mg base 1 "_law_broken" ["_law_web_here", "_law_sides_here", "_law_tie"] spLBroken) : FnOk P w K mg base CX0 2 f fd ["_law_web_here", "_law_weights_here", "_law_sides_here", "_law_place"] spLLean := by
  obtain ⟨fW, fdW, GW, gW, kW, bW⟩ := DW
  obtain ⟨fB, fdB, GB, gB, kB, bB⟩ := DB
  refine F.ok sc_l_lean (fun vs H Q E h => ?_) (fun cdv A outer s H vs Q E hr h => ?_)
  · obtain ⟨v, wv, a, n, ts, ss, g, p, rfl, _⟩ := h
    rfl
  · obtain ⟨v, wv, a, n, ts, ss, g, p, rfl, hW, ok, hw, ha, hl, q⟩ := h
    have hW0 := hW
    obtain ⟨wa, wb, us, rfl, hwa, hwb, hp⟩ := hW
    refine ⟨_, (pss_cons (ps_set (i := 4) sc_l_lean.nd rfl (.inl rfl) pe_int)
      (pss_cons (ps_for PassesOwn.never rfl (pi_range1 (by rfl) M.range (pa_cons (pe_callB call_len_seq (by rfl) M.len PySem.boot_len (pa_cons (pe_ix ix_tup (pv 0) pe_int (fun _ _ => rfl)) pa_nil)) pa_nil)) (pg_name (i := 5) sc_l_lean.nd rfl (.inl rfl))
        (pss_one (ps_if (pt_cmpR op_in_seq (pv 3) (pe_slice sl_tupU (pe_ix ix_tup (pe_ix ix_tup (pv 0) pe_int (fun _ _ => rfl)) (pv 5) (fun _ _ => rfl)) po_none (po_some pe_int)) rfl)
          (Evl.pss_cut (ps_set (i := 6) sc_l_lean.nd rfl (.inl rfl) (pe_call GW hr (by rfl) gW kW bW .nil pass0 (pa_cons (pv 1) (pa_cons (pv 5) pa_nil))))
          (pss_one (ps_set (i := 4) sc_l_lean.nd rfl (.inl rfl) (pe_op op_add (pv 4) (pe_ix ix_list (pe_lst (pa_cons (pe_un un_neg (pv 6)) (pa_cons (pv 6) pa_nil))) (pe_callTy call_int1 (by rfl) M.int (by decide +kernel) (pa_cons (pe_call GB hr (by rfl) gB kB bB .nil pass0 (pa_cons (pv 0) (pa_cons (pv 2) (pa_cons (pv 5) pa_nil)))) pa_nil)) (fun _ _ => rfl))))))
          pss_nil)))
      (pss_one (ps_ret (pv 4))))), ?_⟩
    have hlen : us.length = ts.length := Paired.length hp
    have few := ok.few
    refine ⟨.ref wa, rfl, wa, _, 1, .ref wb, rfl, rfl, SqT.of hwa, rfl, wb, us, rfl, .inr (SqT.of hwb), us.length, rfl, by omega, by omega, ?_⟩
    rw [Int.toNat_natCast, hlen]
    refine for_range (lo := 0) (n := ts.length) (fun i σ' H' => ∃ (y5 y6 : Option V), σ' = [some (.ref wa), some wv, some (.ref a), some (.int p), some (.int (leanTo g ss ts i p)), y5, y6] ∧ Same H H') ⟨none, none, rfl, Same.refl H⟩ ?_ ?_
    · rintro i σ' H2 hi ⟨y5, y6, rfl, s2⟩
      rw [show (0 : Int) + (i : Nat) = i from by omega]
      obtain ⟨t, et⟩ : ∃ t, ts[i]? = some t := ⟨_, List.getElem?_eq_getElem hi⟩
      obtain ⟨u, eu, c, rfl, hc⟩ := Paired.at' hp et
      have et2 := tieAt_of et
      refine ⟨.int p, rfl, .ref wa, rfl, wa, _, 1, .ref wb, rfl, rfl, SqT.of (s2 _ _ hwa), rfl, .int i, rfl, wb, us, i, _, rfl, rfl, SqT.of (s2 _ _ hwb), atI_nat eu, 2, rfl, c, _, rfl, s2 _ _ hc, fun r H3 s3 h3 => ?_⟩
      have ec : cutV [V.int t.one, V.int t.other, V.str (kindS t.foe)] none (some 2) = [V.int t.one, V.int t.other] := rfl
      rw [ec] at h3
      have s23 := s2.trans s3
      refine ⟨r, _, rfl, .inr (SqT.of h3), rfl, rfl, _, rfl, ?_⟩
      simp only [Bool.false_eq_true, if_false]
      rw [in_two]
      have e1 : leanTo g ss ts (i + 1) p = leanTo g ss ts i p + (if has t p = true then (if brk ss t = true then g i else - g i) else 0) := by
        show leanTo g ss ts i p + con g ss ts i p = _
        unfold con
        rw [et2]
      change if has t p = true then _ else _
      cases hh : has t p with
      | false =>
        rw [hh] at e1
        refine ⟨some (.int i), y6, ?_, s23⟩
        rw [e1]
        simp
      | true =>
        rw [hh] at e1
        refine ⟨fun σ' H' => σ' = [some (.ref wa), some wv, some (.ref a), some (.int p), some (.int (leanTo g ss ts i p)), some (.int i), some (.int (g i))] ∧ H' = H3, ?_, ?_⟩
        · rcases (hw.tk (Same.tk s23)).at hi with ⟨rfl, e⟩ | ⟨wa', xs, rfl, e1, e2⟩
          · exact ⟨.non, rfl, .int i, rfl, .inl ⟨i, rfl, by rw [e]; rfl, rfl⟩⟩
          · exact ⟨.ref wa', rfl, .int i, rfl, .inr ⟨wa', xs, i, _, rfl, e1, e2, rfl, rfl⟩⟩
        rintro σ' H4 ⟨rfl, rfl⟩
        refine ⟨.int (leanTo g ss ts i p), rfl, .int (g i), rfl, g i, rfl, .int (g i), rfl, by show 2 ≤ sizeLine; decide, fun o no => ?_⟩
        have s24 := s23.trans (same_new (o := .lst [.int (- g i), .int (g i)]) no)
        refine ⟨.ref wa, rfl, .ref a, rfl, .int i, rfl, .ref wa, a, n, ts, ss, i, rfl, hW0.tk (Same.tk s24), ok, s24 _ _ ha, hl, hi, ?_⟩
        rw [et2]
        refine .inr ⟨_, rfl, o, _, _, _, rfl, rfl, SqL.of upd_same, pick2 _ _ _, _, (if brk ss t = true then g i else - g i), rfl, ?_, ?_⟩
        · cases brk ss t <;> rfl
        · refine ⟨some (.int i), some (.int (g i)), ?_, s24⟩
          rw [e1]
          cases brk ss t <;> simp
    · rintro σ' H2 ⟨y5, y6, rfl, s2⟩
      exact ⟨_, rfl, q _ s2⟩
end
/-! ### the law's weights and sides -/
def spWeightsL : Sp := fun vs H Q _ => ∃ (d : Addr) (b : Nat) (v : V) (n : Int) (ts : List Tie), vs = [.ref d, v] ∧ Well H d b ∧ b < 2 ^ 50 ∧ WebAt H v n ts ∧ WebOk n ts ∧
  ∀ wv g H', Wts H' wv (rng ts.length) g → (∀ x ∈ rng ts.length, 1 ≤ g x ∧ g x ≤ 10 ^ 30) → Well H' d (b + 1000) → Kp d d H H' → Q wv H'
def spSidesL : Sp := fun vs H Q _ => ∃ (d : Addr) (b k : Nat), vs = [.ref d, .int k] ∧ Well H d b ∧ b < 2 ^ 50 ∧ 1 ≤ k ∧ k ≤ 40 ∧
  ∀ a ss H', H' a = some (.tup (ss.map V.int)) → ss.length = k → Bin ss → Well H' d (b + 1000) → Kp d d H H' → Q (.ref a) H'
theorem rep_ints (x : Int) (k : Nat) : (List.replicate k [V.int x]).flatten = (List.replicate k x).map V.int := by
  induction k with
  | zero => rfl
  | succ k ih => rw [List.replicate_succ, List.flatten_cons, ih, List.replicate_succ]; rfl
section
variable {P : Program} {w : World} {K : PySem.W.Frag} {mg : Str → Option Value} {base : Heap}
theorem ok_l_sides {f : Addr} {fd : FuncData} (F : Fun K "_law_sides" "_law_sides" s_l_sides f fd) (M : Free mg) (Dd : Df P w K mg base 1 "_law_draw" ["_law_well_here", "_law_most"] spDraw) : FnOk P w K mg base CX0 2 f fd ["_law_well_here", "_law_many"] spSidesL := by
  obtain ⟨fD, fdD, GD, gD, kD, bD⟩ := Dd
  refine F.ok sc_l_sides (fun vs H Q E h => ?_) (fun cdv A outer s H vs Q E hr h => ?_)
  · obtain ⟨d, b, k, rfl, _⟩ := h
    rfl
  · obtain ⟨d, b, k, rfl, hD, hB, k0, k1, q⟩ := h
    refine ⟨_, (pss_cons (ps_set (i := 2) sc_l_sides.nd rfl (.inl rfl) (pe_call GD hr (by rfl) gD kD bD .nil pass0 (pa_cons (pv 0) (pa_cons pe_int pa_nil))))
      (pss_cons (ps_if (pt_cmpR op_lt (pv 2) pe_int (nomark _))
        (pss_one (ps_ret (pe_op op_repU (pe_tup (pa_cons (pv 2) pa_nil)) (pv 1))))
        pss_nil)
      (pss_one (ps_ret (pe_callTy call_tuple_of (by rfl) M.tuple (by decide +kernel) (pa_cons (pe_lc (own := [("_law_place", 3)]) (g := gName 3) (tt := tYes) rfl sc_l_sides.nd (pi_range1 (by rfl) M.range (pa_cons (pv 1) pa_nil)) (blkOk_by (N := N_l_sides) (sc := defScope s_l_sides) (own := [("_law_place", 3)]) (by decide +kernel)) (fun _ _ _ _ _ => (pg_name (i := 3) sc_l_sides.nd rfl (.inl rfl))) (fun _ _ _ _ _ => pts_nil) (fun _ _ _ _ _ => (pe_call GD hr (by rfl) gD kD bD .nil pass0 (pa_cons (pv 0) (pa_cons pe_int pa_nil))))) pa_nil)))))), ?_⟩
    refine ⟨.ref d, rfl, d, b, 8, rfl, hD, by omega, by decide, by decide, fun v1 H1 a1 b1 D1 K1 => ?_⟩
    refine ⟨.int v1, rfl, v1, 2, rfl, rfl, _, rfl, ite2 (fun e => ?_) (fun e => ?_)⟩
    · have hv := of_decide_eq_true e
      refine ⟨.int v1, rfl, by show 1 ≤ sizeLine; decide, fun p np => ⟨.int k, rfl, p, k, _, rfl, rfl, upd_same, by simp, by omega, by omega, by show 1 ≤ 1000; decide, fun r H2 s2 h2 => ?_⟩⟩
      rw [Int.toNat_natCast, rep_ints] at h2
      refine q r _ H2 h2 (by rw [List.length_replicate]) (fun x hx => ?_) (((D1.new np).same s2).mono (by omega)) ((K1.trans (Kp.new np)).trans (Same.kp s2))
      rw [List.eq_of_mem_replicate hx]
      omega
    · refine ⟨.int k, rfl, k, rfl, by omega, by omega, fun Z nZ => ?_⟩
      rw [Int.toNat_natCast]
      have hZd := D1.ned nZ
      have nZ0 := K1.free nZ hZd hZd
      refine lc_range (lo := 0) (n := k) (fun i H' => ∃ ss : List Int, H' Z = some (.lst (ss.map V.int)) ∧ ss.length = i ∧ Bin ss ∧ Well H' d (b + 1 + i) ∧ Kp d d H H') ⟨[], upd_same, rfl, fun x hx => by simp at hx, D1.new nZ, K1.trans (Kp.new nZ)⟩ ?_ ?_
      · rintro i H2 hi ⟨ss, hZ, ls, bn, D2, K2⟩
        refine ⟨rfl, .ref d, rfl, d, b + 1 + i, 2, rfl, D2, by omega, by decide, by decide, fun v2 H3 a2 b2 D3 K3 => ?_⟩
        refine ⟨_, K3 _ _ hZd hZd hZ, by rw [List.length_map]; exact small1000 (by omega), ss ++ [v2], by rw [upd_same, List.map_append]; rfl, by rw [List.length_append, ls]; rfl, fun x hx => ?_, D3.mut hZd, (K2.trans K3).mut nZ0⟩
        rcases List.mem_append.mp hx with h | h
        · exact bn x h
        · rw [List.mem_singleton.mp h]
          omega
      · rintro H2 ⟨ss, hZ, ls, bn, D2, K2⟩
        refine ⟨Z, _, rfl, .inl ⟨SqL.of hZ, fun r nr => ?_⟩⟩
        exact q r ss _ upd_same ls bn ((D2.new nr).mono (by omega)) (K2.trans (Kp.new nr))
theorem ok_l_weights {f : Addr} {fd : FuncData} (F : Fun K "_law_weights" "_law_weights" s_l_weights f fd) (M : Free mg) (Dd : Df P w K mg base 1 "_law_draw" ["_law_well_here", "_law_most"] spDraw) : FnOk P w K mg base CX0 2 f fd ["_law_well_here", "_law_web_here"] spWeightsL := by
  obtain ⟨fD, fdD, GD, gD, kD, bD⟩ := Dd
  refine F.ok sc_l_weights (fun vs H Q E h => ?_) (fun cdv A outer s H vs Q E hr h => ?_)
  · obtain ⟨d, b, v, n, ts, rfl, _⟩ := h
    rfl
  · obtain ⟨d, b, v, n, ts, rfl, hD, hB, ⟨wa, wb, us, rfl, hwa, hwb, hp⟩, ok, q⟩ := h
    refine ⟨_, (pss_cons (ps_if (pt_cmpR op_eq (pe_call GD hr (by rfl) gD kD bD .nil pass0 (pa_cons (pv 0) (pa_cons pe_int pa_nil))) pe_int (nomark _))
        (pss_one (ps_ret pe_non))
        pss_nil)
      (pss_cons (ps_set (i := 2) sc_l_weights.nd rfl (.inl rfl) (pe_lst pa_nil))
      (pss_cons (ps_for PassesOwn.never rfl (pi_tup (pe_ix ix_tup (pv 1) pe_int (fun _ _ => rfl))) (pg_name (i := 3) sc_l_weights.nd rfl (.inl rfl))
        (pss_cons (ps_set (i := 4) sc_l_weights.nd rfl (.inl rfl) (pe_call GD hr (by rfl) gD kD bD .nil pass0 (pa_cons (pv 0) (pa_cons pe_int pa_nil))))
        (pss_cons (ps_set (i := 5) sc_l_weights.nd rfl (.inl rfl) (pe_op op_add pe_int (pe_call GD hr (by rfl) gD kD bD .nil pass0 (pa_cons (pv 0) (pa_cons (pe_ix ix_list (pe_lst (pa_cons pe_int (pa_cons pe_int (pa_cons pe_int (pa_cons pe_int (pa_cons (pe_op op_pow pe_int pe_int) (pa_cons pe_int pa_nil))))))) (pv 4) (fun _ _ => rfl)) pa_nil)))))
        (Evl.pss_cut (ps_if (pt_cmpR op_eq (pv 4) pe_int (nomark _))
          (pss_one (ps_set (i := 5) sc_l_weights.nd rfl (.inl rfl) (pe_ix ix_list (pe_lst (pa_cons (pe_op op_pow pe_int pe_int) (pa_cons (pe_op op_sub (pe_op op_pow pe_int pe_int) pe_int) pa_nil))) (pe_op op_sub (pv 5) pe_int) (fun _ _ => rfl))))
          pss_nil)
        (pss_one (ps_expr (pe_bm PySem.F.plainAttrs_list PySem.F.slot_list_append PySem.F.type_list_append mt_append (pv 2) (pa_cons (pv 5) pa_nil))))))))
      (pss_one (ps_ret (pe_callTy call_tuple_of (by rfl) M.tuple (by decide +kernel) (pa_cons (pv 2) pa_nil))))))), ?_⟩
    have hlen : us.length = ts.length := Paired.length hp
    have few := ok.few
    refine ⟨.ref d, rfl, d, b, 4, rfl, hD, by omega, by decide, by decide, fun v1 H1 a1 b1 D1 K1 => ⟨rfl, _, rfl, ite2 (fun _ => ?_) (fun _ => ?_)⟩⟩
    · exact q .non (fun _ => 1) H1 (.inl ⟨rfl, fun _ _ => rfl⟩) (fun _ _ => ⟨by decide, by decide⟩) (D1.mono (by omega)) K1
    refine ⟨Nat.zero_le _, fun L nL => ?_⟩
    have hLd := D1.ned nL
    have nL0 := K1.free nL hLd hLd
    have hwa1 := K1.tk hD _ _ hwa
    have hwb1 := K1.tk hD _ _ hwb
    refine ⟨.ref wa, rfl, wa, _, 1, .ref wb, rfl, rfl, SqT.of (same_new nL _ _ hwa1), rfl, wb, rfl, ⟨_, SqT.of (same_new nL _ _ hwb1)⟩, ?_⟩
    refine for_tup (xs := us) (fun i σ' H' => ∃ (y3 y4 y5 : Option V) (ws : List Int), σ' = [some (.ref d), some (.ref wa), some (.ref L), y3, y4, y5] ∧ H' L = some (.lst (ws.map V.int)) ∧ ws.length = i ∧ (∀ x ∈ ws, 1 ≤ x ∧ x ≤ 10 ^ 30) ∧ Well H' d (b + 1 + 2 * i) ∧ Kp d d H H') ⟨none, none, none, [], rfl, upd_same, rfl, fun x hx => by simp at hx, D1.new nL, K1.trans (Kp.new nL)⟩ (fun i σ' H' _ h => by
      obtain ⟨_, _, _, _, _, _, _, _, _, K2⟩ := h
      exact SqT.of (K2.tk hD _ _ hwb)) ?_ ?_
    · rintro i x σ' H2 ex ⟨y3, y4, y5, ws, rfl, hL2, lw, ow, D2, K2⟩
      have hi : i < us.length := (List.getElem?_eq_some_iff.mp ex).1
      refine ⟨.ref d, rfl, d, b + 1 + 2 * i, 6, rfl, D2, by omega, by decide, by decide, fun way H3 w0 w1 D3 K3 => ?_⟩
      refine ⟨.ref d, rfl, 10, 6, rfl, rfl, ⟨by decide, by decide, by decide⟩, by show 6 ≤ sizeLine; decide, fun p np => ?_⟩
      obtain ⟨m, hm, m0, m1, m2⟩ : ∃ m : Int, atI [V.int 1, V.int 2, V.int 3, V.int 9, V.int (10 ^ (6 : Int).toNat), V.int 2] way = some (.int m) ∧ 0 < m ∧ m ≤ 10 ^ 6 ∧ (way = 5 → m = 2) := by
        have h4 : way = 0 ∨ way = 1 ∨ way = 2 ∨ way = 3 ∨ way = 4 ∨ way = 5 := by omega
        rcases h4 with rfl | rfl | rfl | rfl | rfl | rfl
        · exact ⟨1, rfl, by decide, by decide, by decide⟩
        · exact ⟨2, rfl, by decide, by decide, by decide⟩
        · exact ⟨3, rfl, by decide, by decide, by decide⟩
        · exact ⟨9, rfl, by decide, by decide, by decide⟩
        · exact ⟨_, rfl, by decide, by decide, by decide⟩
        · exact ⟨2, rfl, by decide, by decide, by decide⟩
      refine ⟨.int way, rfl, p, _, way, .int m, rfl, rfl, SqL.of upd_same, hm, d, b + 1 + 2 * i + 1, m, rfl, D3.new np, by omega, m0, by omega, fun v4 H4 a4 b4 D4 K4 => ⟨1, v4, rfl, rfl, ?_⟩⟩
      have K24 := (K3.trans (Kp.new (o := .lst [.int 1, .int 2, .int 3, .int 9, .int (10 ^ (6 : Int).toNat), .int 2]) np)).trans K4
      have hL4 := K24 _ _ hLd hLd hL2
      have KK := K2.trans K24
      refine ⟨fun σ' H' => ∃ (y3 : Option V) (z : Int), σ' = [some (.ref d), some (.ref wa), some (.ref L), y3, some (.int way), some (.int z)] ∧ 1 ≤ z ∧ z ≤ 10 ^ 30 ∧ Same H4 H', ?_, ?_⟩
      · refine ⟨.int way, rfl, rfl, _, rfl, ite2 (fun e => ?_) (fun e => ?_)⟩
        · have hw5 : way = 5 := V.int.inj (of_decide_eq_true e)
          have hm2 := m2 hw5
          refine ⟨10, 30, rfl, rfl, ⟨by decide, by decide, by decide⟩, 10, 30, rfl, rfl, ⟨by decide, by decide, by decide⟩, _, 1, rfl, rfl, by show 2 ≤ sizeLine; decide, fun r nr => ?_⟩
          have h01 : v4 = 0 ∨ v4 = 1 := by omega
          rcases h01 with rfl | rfl
          · exact ⟨.int (1 + 0), rfl, 1 + 0, 1, rfl, rfl, r, _, _, _, rfl, rfl, SqL.of upd_same, rfl, _, _, rfl, by decide, by decide, same_new nr⟩
          · exact ⟨.int (1 + 1), rfl, 1 + 1, 1, rfl, rfl, r, _, _, _, rfl, rfl, SqL.of upd_same, rfl, _, _, rfl, by decide, by decide, same_new nr⟩
        · exact ⟨_, _, rfl, by omega, by omega, Same.refl H4⟩
      rintro σ' H5 ⟨y3', z, rfl, z0, z1, s5⟩
      have hL5 := s5 _ _ hL4
      refine ⟨.ref L, rfl, .inl ⟨rfl, _, SqL.of hL5⟩, .int z, rfl, L, _, _, rfl, rfl, hL5, by rw [List.length_map]; exact small1000 (by omega), ?_⟩
      refine ⟨_, _, _, ws ++ [z], rfl, by rw [upd_same, List.map_append]; rfl, by rw [List.length_append, lw]; rfl, fun x hx => ?_, ((D4.same s5).mut hLd).mono (by omega), (KK.trans (Same.kp s5)).mut nL0⟩
      rcases List.mem_append.mp hx with h | h
      · exact ow x h
      · rw [List.mem_singleton.mp h]
        exact ⟨z0, z1⟩
    · rintro σ' H2 ⟨y3, y4, y5, ws, rfl, hL2, lw, ow, D2, K2⟩
      rw [hlen] at lw
      refine ⟨.ref L, rfl, L, _, rfl, .inl ⟨SqL.of hL2, fun r nr => ?_⟩⟩
      refine q (.ref r) (gW ws) _ (.inr ⟨r, ws, rfl, upd_same, fun x hx => ?_⟩) (fun x hx => ?_) ((D2.new nr).mono (by omega)) (K2.trans (Kp.new nr))
      · have := mem_rng.mp hx
        exact ⟨⟨this.1, by omega⟩, rfl⟩
      · have hx' := mem_rng.mp hx
        have hb : x.toNat < ws.length := by omega
        unfold gW
        rw [List.getD_eq_getElem?_getD, List.getElem?_eq_getElem hb]
        exact ow _ (List.getElem_mem hb)
end
/-! ### own refusals -/
/-- a class of refusals, at D, named x, under WebError, at W -/
structure RefT (K : PySem.W.Frag) (mg : Str → Option Value) (x : Str) (D W : Addr) : Prop where
  gD : mg x = some (.ref D)
  gW : mg "WebError" = some (.ref W)
  exc : PySem.W.excIn K D [.type "ValueError", .type "Exception", .type "BaseException", .type "object"] "ValueError.__new__" = true
  kD : PySem.W.keepIn K (.ref D) = true
  tD : PySem.W.typeIn K (.ref D) = some (.type "type")
  ec : ExcC K D
  web : PySem.W.exmOne K (.ref D) (.ref W) = some true
/-- what isinstance tells of its refusals: of the class named x, at C, b -/
structure KitT (K : PySem.W.Frag) (mg : Str → Option Value) (D : Addr) (x : Str) (C : Addr) (b : Bool) : Prop where
  g : mg x = some (.ref C)
  k : PySem.W.kitOne K (.ref D) (.ref C) = some b
section
variable {X : Cx}
def rIsX (K : PySem.W.Frag) (a : Addr) (cls : Value) (d : Option Addr) : List V → Hp → VK → Prop := fun xs H Q => ∃ D, ExcC K D ∧ cls = .ref D ∧ d = none ∧ rIsE K D a xs H Q
theorem call_isX {a : Addr} {cls : Value} {d : Option Addr} {oe : Obj} {pn : List (Addr × Obj)} (hz : Zc cls d oe) (hf : ∃ vs, oe.data = .fields vs) : CallR (X.suite a ((a, oe) :: pn)) (.builtin "isinstance") (rIsX X.K a cls d) := by
  intro pins s σ H xs us Q I r h
  obtain ⟨D, C, rfl, rfl, h⟩ := h
  exact call_isE C hz hf pins s σ H xs us Q I r h
end
def DfX (P : Program) (w : World) (K : PySem.W.Frag) (mg : Str → Option Value) (base : Heap) (k : Nat) (x : Str) (ps : List Str) (sp : Sp) : Prop :=
  ∃ (f : Addr) (fd : FuncData), FnOk P w K mg base (L2.CX P w) k f fd ps sp ∧ mg x = some (.ref f) ∧ PySem.W.keepIn K (.ref f) = true ∧ Binds K fd ps []
theorem DfX.of {P : Program} {w : World} {K : PySem.W.Frag} {mg : Str → Option Value} {base : Heap} {x : Str} {st : Stmt} {f : Addr} {fd : FuncData} {k : Nat} {ps : List Str} {sp : Sp} (g : mg x = some (.ref f)) (F : Fun K x x st f fd) (G : FnOk P w K mg base (L2.CX P w) k f fd ps sp)
    (h : ∀ (kV doc pm : Value) (an : Option Addr) (cdv ct : Value) (us : List Value), us.length = ps.length → bindArgs (PySem.W.fnOf x x (defArgs st) (defBody st) (defScope st) .none kV doc pm an cdv ct) ⟨us, []⟩ = pure (ps.zip us)) : DfX P w K mg base k x ps sp :=
  ⟨f, fd, G, g, F.kp, F.binds h⟩
/-- where a class of refusals stands -/
structure ErrK (K : PySem.W.Frag) (x : Str) (D W : Addr) : Prop where
  ns : PySem.W.nsIn K mainGlobals x = some (some (.ref D))
  nw : PySem.W.nsIn K mainGlobals "WebError" = some (some (.ref W))
  exc : PySem.W.excIn K D [.type "ValueError", .type "Exception", .type "BaseException", .type "object"] "ValueError.__new__" = true
  kD : PySem.W.keepIn K (.ref D) = true
  tD : PySem.W.typeIn K (.ref D) = some (.type "type")
  ec : ExcC K D
  web : PySem.W.exmOne K (.ref D) (.ref W) = some true
theorem errK_mk {K : PySem.W.Frag} {x : Str} {D W : Addr} (p1 : PySem.W.nsIn K mainGlobals x = some (some (.ref D))) (p2 : PySem.W.nsIn K mainGlobals "WebError" = some (some (.ref W)))
    (p3 : PySem.W.excIn K D [.type "ValueError", .type "Exception", .type "BaseException", .type "object"] "ValueError.__new__" = true) (p4 : PySem.W.keepIn K (.ref D) = true) (p5 : PySem.W.typeIn K (.ref D) = some (.type "type"))
    (p6 : PySem.W.findIn K (.ref D) "__getattribute__" = some (some (.builtin "BaseException.__getattribute__"))) (p7 : PySem.W.findIn K (.ref D) "__getattr__" = some none) (p8 : PySem.W.subIn K (.ref D) (.type "BaseException") = some true) (p9 : PySem.W.hasDictIn K D = true)
    (p10 : PySem.W.findIn K (.ref D) "__class__" = some (some (.builtin "object.__class__"))) (p11 : PySem.W.specialIn K (.builtin "object.__class__") "__get__" = some (some (.builtin "getset_descriptor.__get__"))) (p12 : PySem.W.takesIn K (.builtin "object.__class__") = some true) (p13 : PySem.W.mroIn K D (.type "object") = some true)
    (p14 : PySem.W.subIn K (.ref W) (.type "BaseException") = some true) (p15 : PySem.W.hasDictIn K W = true) (p16 : PySem.W.typeIn K (.ref W) = some (.type "type")) (p17 : PySem.W.subIn K (.ref D) (.ref W) = some true) : ErrK K x D W :=
  ⟨p1, p2, p3, p4, p5, ⟨p6, p7, p8, p9, p10, p11, p12, p13⟩, PySem.W.exm_ref p14 p15 p16 p17⟩
theorem ErrK.ref {K : PySem.W.Frag} {mg : Str → Option Value} {h : Heap} {x : Str} {D W : Addr} (e : ErrK K x D W) (X : K.In h) (G : h.Ns mainGlobals mg) : RefT K mg x D W :=
  ⟨PySem.W.mg_of X G e.ns, PySem.W.mg_of X G e.nw, e.exc, e.kD, e.tD, e.ec, e.web⟩
structure KitK (K : PySem.W.Frag) (D : Addr) (x : Str) (C : Addr) (b : Bool) : Prop where
  ns : PySem.W.nsIn K mainGlobals x = some (some (.ref C))
  k : PySem.W.kitOne K (.ref D) (.ref C) = some b
theorem kitK_mk {K : PySem.W.Frag} {D : Addr} {x : Str} {C : Addr} {b : Bool} (p1 : PySem.W.nsIn K mainGlobals x = some (some (.ref C))) (p2 : PySem.W.kitOne K (.ref D) (.ref C) = some b) : KitK K D x C b := ⟨p1, p2⟩
theorem KitK.kit {K : PySem.W.Frag} {mg : Str → Option Value} {h : Heap} {D : Addr} {x : Str} {C : Addr} {b : Bool} (e : KitK K D x C b) (X : K.In h) (G : h.Ns mainGlobals mg) : KitT K mg D x C b := ⟨PySem.W.mg_of X G e.ns, e.k⟩
/-! ### moves: the mathematics -/
/-- the next place that moves over -/
def Nxt (g : Int → Int) (ts : List Tie) (n : Nat) (ss : List Int) (p : Int) : Prop := 0 ≤ p ∧ p < n ∧ 0 < lean g ss ts p ∧ (∀ q : Int, 0 ≤ q → q < n → lean g ss ts q ≤ lean g ss ts p) ∧ ∀ q : Int, 0 ≤ q → q < p → lean g ss ts q < lean g ss ts p
def Calm (g : Int → Int) (ts : List Tie) (n : Nat) (ss : List Int) : Prop := ∀ q : Int, 0 ≤ q → q < n → lean g ss ts q ≤ 0
theorem Nxt.uniq {g : Int → Int} {ts : List Tie} {n : Nat} {ss : List Int} {p q : Int} (h : Nxt g ts n ss p) (k : Nxt g ts n ss q) : p = q := by
  obtain ⟨h0, h1, _, h2, h3⟩ := h
  obtain ⟨k0, k1, _, k2, k3⟩ := k
  have a := h2 q k0 k1
  have b := k2 p h0 h1
  by_cases e : p < q
  · have := k3 p h0 e
    omega
  · by_cases e2 : q < p
    · have := h3 q k0 e2
      omega
    · omega
theorem Nxt.no {g : Int → Int} {ts : List Tie} {n : Nat} {ss : List Int} {p : Int} (h : Nxt g ts n ss p) (c : Calm g ts n ss) : False := by
  have := c p h.1 h.2.1
  have := h.2.2.1
  omega
inductive Mvs (g : Int → Int) (ts : List Tie) (n : Nat) (s0 : List Int) : List Int → List Int → Prop
  | nil : Mvs g ts n s0 [] s0
  | snoc {ps e : List Int} {p : Int} : Mvs g ts n s0 ps e → Nxt g ts n e p → Mvs g ts n s0 (ps ++ [p]) (moved e p)
theorem Mvs.cut {g : Int → Int} {ts : List Tie} {n : Nat} {s0 ps e : List Int} (h : Mvs g ts n s0 ps e) : ∀ m, m ≤ ps.length → ∃ e', Mvs g ts n s0 (ps.take m) e' ∧ (m < ps.length → ∃ p, ps[m]? = some p ∧ Nxt g ts n e' p) ∧ (m = ps.length → e' = e) := by
  induction h with
  | nil =>
    intro m hm
    have : m = 0 := by simpa using hm
    subst this
    exact ⟨_, .nil, fun z => absurd z (Nat.lt_irrefl _), fun _ => rfl⟩
  | @snoc ps e p h hn ih =>
    intro m hm
    rw [List.length_append] at hm
    simp only [List.length_cons, List.length_nil] at hm
    by_cases hm1 : m ≤ ps.length
    · obtain ⟨e', h1, h2, h3⟩ := ih m hm1
      refine ⟨e', by rw [List.take_append_of_le_length hm1]; exact h1, fun _ => ?_, fun z => ?_⟩
      · by_cases hm2 : m < ps.length
        · obtain ⟨q, hq, hn'⟩ := h2 hm2
          exact ⟨q, by rw [List.getElem?_append_left hm2]; exact hq, hn'⟩
        · have hm3 : m = ps.length := by omega
          rw [h3 hm3, hm3]
          exact ⟨p, by simp, hn⟩
      · rw [List.length_append] at z
        simp only [List.length_cons, List.length_nil] at z
        omega
    · have hm3 : m = ps.length + 1 := by omega
      subst hm3
      refine ⟨_, ?_, fun z => ?_, fun _ => rfl⟩
      · rw [List.take_of_length_le (by simp)]
        exact h.snoc hn
      · rw [List.length_append] at z
        simp at z
theorem Mvs.end_uniq {g : Int → Int} {ts : List Tie} {n : Nat} {s0 : List Int} : ∀ {ps qs e f : List Int}, Mvs g ts n s0 ps e → Mvs g ts n s0 qs f → ps.length = qs.length → ps = qs ∧ e = f := by
  intro ps qs e f h
  induction h generalizing qs f with
  | nil =>
    intro k hl
    cases k with
    | nil => exact ⟨rfl, rfl⟩
    | snoc _ _ => simp at hl
  | snoc h hn ih =>
    intro k hl
    cases k with
    | nil => simp at hl
    | snoc k kn =>
      obtain ⟨e1, e2⟩ := ih k (by simpa using hl)
      subst e1 e2
      rw [hn.uniq kn]
      exact ⟨rfl, rfl⟩
/-- a run that is calm at its end is no longer than any other one -/
theorem Mvs.calm_le {g : Int → Int} {ts : List Tie} {n : Nat} {s0 ps qs e f : List Int} (h : Mvs g ts n s0 ps e) (k : Mvs g ts n s0 qs f) (c : Calm g ts n e) : qs.length ≤ ps.length := by
  by_cases hl : qs.length ≤ ps.length
  · exact hl
  · obtain ⟨e', h1, h2, _⟩ := k.cut ps.length (by omega)
    obtain ⟨p, _, hn⟩ := h2 (by omega)
    have := (h.end_uniq h1 (by rw [List.length_take]; omega)).2
    subst this
    exact (hn.no c).elim
theorem Mvs.bin {g : Int → Int} {ts : List Tie} {n : Nat} {s0 ps e : List Int} (h : Mvs g ts n s0 ps e) (b : Bin s0) (hl : s0.length = n) : Bin e ∧ e.length = n := by
  induction h with
  | nil => exact ⟨b, hl⟩
  | @snoc ps e p h hn ih =>
    refine ⟨fun x hx => ?_, by rw [moved_len]; exact ih.2⟩
    rcases List.mem_or_eq_of_mem_set hx with h | h
    · exact ih.1 x h
    · have := sd_bin ih.1 hn.1 (by rw [ih.2]; exact hn.2.1)
      omega
/-- of the leans the first of the greatest -/
theorem nxt_of {g : Int → Int} {ts : List Tie} {n : Nat} {ss : List Int} {m : Int} {j : Nat} (hmax : ∀ y ∈ (rng n).map (lean g ss ts), y ≤ m) (pos : 0 < m) (hj : ((rng n).map (lean g ss ts))[j]? = some m) (hno : ∀ i, i < j → ((rng n).map (lean g ss ts))[i]? ≠ some m) : Nxt g ts n ss j := by
  have at' : ∀ i : Nat, i < n → ((rng n).map (lean g ss ts))[i]? = some (lean g ss ts i) := fun i hi => by
    unfold rng
    rw [List.map_map, List.getElem?_map, List.getElem?_range hi]
    rfl
  have hjn : j < n := by
    have := (List.getElem?_eq_some_iff.mp hj).1
    rw [List.length_map, rng_length] at this
    exact this
  have ej : lean g ss ts j = m := by
    have := at' j hjn
    rw [hj] at this
    exact (Option.some.inj this).symm
  refine ⟨by omega, by omega, by omega, fun q h0 h1 => ?_, fun q h0 h1 => ?_⟩
  · rw [ej]
    exact hmax _ (List.mem_map_of_mem (mem_rng.mpr ⟨h0, h1⟩))
  · have h2 := hmax _ (List.mem_map_of_mem (mem_rng.mpr ⟨h0, by omega⟩) : lean g ss ts q ∈ _)
    have h3 : lean g ss ts q ≠ m := fun e => by
      have z := at' q.toNat (by omega)
      rw [show ((q.toNat : Nat) : Int) = q from by omega, e] at z
      exact hno q.toNat (by omega) z
    omega
theorem first_at {ns : List Int} {m : Int} (h : m ∈ ns) : ∃ j : Nat, ns[j]? = some m ∧ ∀ i : Nat, i < j → ns[i]? ≠ some m := by
  induction ns with
  | nil => simp at h
  | cons x xs ih =>
    by_cases e : x = m
    · exact ⟨0, by rw [e]; rfl, fun i hi => absurd hi (Nat.not_lt_zero _)⟩
    · have h' : m ∈ xs := by
        rcases List.mem_cons.mp h with z | z
        · exact absurd z.symm e
        · exact z
      obtain ⟨j, h1, h2⟩ := ih h'
      refine ⟨j + 1, by simpa using h1, fun i hi => ?_⟩
      cases i with
      | zero => simpa using e
      | succ i => simpa using h2 i (by omega)
/-! ### settled -/
theorem room65 {k : Nat} {A : PySem.Around} (r : Room k A) : A.units + 65 < cLine := by have := r.un; omega
def spOver : Sp := fun vs H Q _ => ∃ (a : Addr) (ss : List Int) (p : Int), vs = [.ref a, .int p] ∧ H a = some (.tup (ss.map V.int)) ∧ ss.length ≤ 40 ∧ 0 ≤ p ∧ p < ss.length ∧ ∀ r H', Same H H' → H' r = some (.tup ((moved ss p).map V.int)) → Q (.ref r) H'
def spSettled (D : Addr) : Sp := fun vs H Q E => ∃ (v wv : V) (a : Addr) (n : Int) (ts : List Tie) (ss : List Int) (g : Int → Int), vs = [v, wv, .ref a] ∧ WebAt H v n ts ∧ WebOk n ts ∧ Wts H wv (rng ts.length) g ∧ H a = some (.tup (ss.map V.int)) ∧ (ss.length : Int) = n ∧ Bin ss ∧
  (∀ ps cur b r t H', Mvs g ts n.toNat ss ps cur → Calm g ts n.toNat cur → ps.length ≤ 16 → Same H H' → H' r = some (.tup [.ref b, .ref t]) → H' b = some (.tup (cur.map V.int)) → H' t = some (.tup (ps.map V.int)) → Q (.ref r) H') ∧
  (∀ ps cur p H', Mvs g ts n.toNat ss ps cur → Nxt g ts n.toNat cur p → ps.length = 16 → Same H H' → E (.ref D) none H')
def spTold : Sp := fun vs H Q _ => ∃ (v wv : V) (a : Addr) (n : Int) (ts : List Tie) (ss : List Int) (g : Int → Int), vs = [v, wv, .ref a] ∧ WebAt H v n ts ∧ WebOk n ts ∧ Wts H wv (rng ts.length) g ∧ H a = some (.tup (ss.map V.int)) ∧ (ss.length : Int) = n ∧ Bin ss ∧
  (∀ ps cur b r t z R H', Mvs g ts n.toNat ss ps cur → Calm g ts n.toNat cur → ps.length ≤ 16 → Same H H' → H' R = some (.tup [.ref z, .ref r]) → H' z = some (.lst []) → H' r = some (.tup [.ref b, .ref t]) → H' b = some (.tup (cur.map V.int)) → H' t = some (.tup (ps.map V.int)) → Q (.ref R) H') ∧
  (∀ ps cur p z R H', Mvs g ts n.toNat ss ps cur → Nxt g ts n.toNat cur p → ps.length = 16 → Same H H' → H' R = some (.tup [.ref z, .non]) → H' z = some (.lst ([true, false, false, false, false, false, true].map V.bl)) → Q (.ref R) H')
section
variable {P : Program} {w : World} {K : PySem.W.Frag} {mg : Str → Option Value} {base : Heap}
theorem ok_moved_over {f : Addr} {fd : FuncData} (F : Fun K "moved_over" "moved_over" s_moved_over f fd) : FnOk P w K mg base CX0 1 f fd ["sides", "place"] spOver := by
  refine F.ok sc_moved_over (fun vs H Q E h => ?_) (fun cdv A outer s H vs Q E hr h => ?_)
  · obtain ⟨a, ss, p, rfl, _⟩ := h
    rfl
  · obtain ⟨a, ss, p, rfl, ha, few, p0, pl, q⟩ := h
    refine ⟨_, (pss_one (ps_ret (pe_op op_catU (pe_op op_catU (pe_slice sl_tupU (pv 0) po_none (po_some (pv 1))) (pe_tup (pa_cons (pe_op op_sub pe_int (pe_ix ix_tup (pv 0) (pv 1) (fun _ _ => rfl))) pa_nil))) (pe_slice sl_tupU (pv 0) (po_some (pe_op op_add (pv 1) pe_int)) po_none)))), ?_⟩
    have lc1 := cutV_length (ss.map V.int) none (some p)
    have lc2 := cutV_length (ss.map V.int) (some (p + 1)) none
    rw [List.length_map] at lc1 lc2
    refine ⟨.ref a, rfl, .int p, rfl, p, rfl, a, _, rfl, ha, fun r1 H5 s5 h5 => ?_⟩
    refine ⟨.ref a, rfl, .int p, rfl, a, _, p, _, rfl, rfl, SqT.of (s5 _ _ ha), atI_sd p0 pl, 1, _, rfl, rfl, by show 1 ≤ sizeLine; decide, fun r2 n2 => ?_⟩
    have s6 := s5.trans (same_new (o := .tup [.int (1 - sd ss p)]) n2)
    refine ⟨r1, r2, _, _, rfl, rfl, same_new n2 _ _ h5, upd_same, by simp only [List.length_cons, List.length_nil]; omega, fun r3 H7 s7 h7 => ?_⟩
    have s67 := s6.trans s7
    refine ⟨.ref a, rfl, .int p, rfl, p, 1, rfl, rfl, _, rfl, a, _, rfl, s67 _ _ ha, fun r4 H8 s8 h8 => ?_⟩
    refine ⟨r3, r4, _, _, rfl, rfl, s8 _ _ h7, h8, by rw [List.length_append]; simp only [List.length_cons, List.length_nil]; omega, fun r5 H9 s9 h9 => ?_⟩
    rw [moved_cut p0 pl] at h9
    exact q r5 _ ((s67.trans s8).trans s9) h9
theorem ok_settled {f : Addr} {fd : FuncData} {D W : Addr} (F : Fun K "settled" "settled" s_settled f fd) (M : Free mg) (mmax : mg "max" = none) (T : RefT K mg "TooMany" D W) {tm : Tok} (gM : mg "MOST_MOVES" = some (.int 16 tm)) (D_leans : Df P w K mg base 2 "leans" ["web", "weights", "sides"] spLeans) (D_moved_over : Df P w K mg base 1 "moved_over" ["sides", "place"] spOver) : FnOk P w K mg base (L2.CX P w) 3 f fd ["web", "weights", "sides"] (spSettled D) := by
  obtain ⟨f_leans, fd_leans, G_leans, g_leans, k_leans, b_leans⟩ := D_leans
  obtain ⟨f_moved_over, fd_moved_over, G_moved_over, g_moved_over, k_moved_over, b_moved_over⟩ := D_moved_over
  refine F.okX sc_settled (fun vs H Q E h => ?_) (fun cdv A outer s H vs Q E hr h => ?_)
  · obtain ⟨v, wv, a, n, ts, ss, g, rfl, _⟩ := h
    rfl
  · obtain ⟨v, wv, a, n, ts, ss, g, rfl, hW, ok, hw, ha, hl, bn, q, qe⟩ := h
    refine ⟨_, (pss_cons (ps_set (i := 3) sc_settled.nd rfl (.inl rfl) (pe_call G_leans hr (by rfl) g_leans k_leans b_leans .nil pass0 (pa_cons (pv 0) (pa_cons (pv 1) (pa_cons (pv 2) pa_nil)))))
      (pss_cons (ps_set (i := 4) sc_settled.nd rfl (.inl rfl) (pe_lst pa_nil))
      (pss_cons (ps_while (passes_of rfl) (pt_cmpR op_gt (pe_callB (cr_maxT rfl (room65 hr)) (by rfl) mmax (by decide +kernel) (pa_cons (pv 3) pa_nil)) pe_int (nomark _))
        (pss_cons (ps_if (pt_cmpR op_eq (pe_callB call_len_seq (by rfl) M.len PySem.boot_len (pa_cons (pv 4) pa_nil)) (pe_glob (v := .int 16) rfl gM ⟨_, rfl⟩) (nomark _))
          (pss_one (ps_raise rfl (takes_of rfl rfl rfl rfl) (pmk_own PySem.F.excBase_ValueError T.exc T.gD T.kD (raises_own T.ec.hs T.tD) rfl)))
          pss_nil)
        (pss_cons (ps_set (i := 5) sc_settled.nd rfl (.inl rfl) (pe_bmT PySem.F.slot_tuple_index PySem.F.type_tuple_index mt_tidx (pv 3) (pa_cons (pe_callB (cr_maxT rfl (room65 hr)) (by rfl) mmax (by decide +kernel) (pa_cons (pv 3) pa_nil)) pa_nil)))
        (pss_cons (ps_expr (pe_bm PySem.F.plainAttrs_list PySem.F.slot_list_append PySem.F.type_list_append mt_append (pv 4) (pa_cons (pv 5) pa_nil)))
        (pss_cons (ps_set (i := 2) sc_settled.nd rfl (.inl rfl) (pe_call G_moved_over (hr.mono (by decide)) (by rfl) g_moved_over k_moved_over b_moved_over .nil pass0 (pa_cons (pv 2) (pa_cons (pv 5) pa_nil))))
        (pss_one (ps_set (i := 3) sc_settled.nd rfl (.inl rfl) (pe_call G_leans hr (by rfl) g_leans k_leans b_leans .nil pass0 (pa_cons (pv 0) (pa_cons (pv 1) (pa_cons (pv 2) pa_nil)))))))))))
      (pss_one (ps_ret (pe_tup (pa_cons (pv 2) (pa_cons (pe_callTy call_tuple_of (by rfl) M.tuple (by decide +kernel) (pa_cons (pv 4) pa_nil)) pa_nil)))))))), ?_⟩
    obtain ⟨k, rfl⟩ : ∃ k : Nat, n = k := ⟨n.toNat, by have := ok.lo; omega⟩
    have hk := ok.hi
    have hk1 := ok.lo
    rw [Int.toNat_natCast] at q qe
    refine ⟨v, rfl, wv, rfl, .ref a, rfl, v, wv, a, k, ts, ss, g, rfl, hW, ok, hw, ha, hl, fun r H1 s1 h1 => ⟨Nat.zero_le _, fun L nL => ?_⟩⟩
    rw [Int.toNat_natCast] at h1
    have nL0 : H L = none := s1.free nL
    have sL := same_new (o := .lst []) nL
    refine ⟨fun m σ' H' => ∃ (y5 : Option V) (b r : Addr) (ps cur : List Int), σ' = [some v, some wv, some (.ref b), some (.ref r), some (.ref L), y5] ∧ H' b = some (.tup (cur.map V.int)) ∧ Mvs g ts k ss ps cur ∧ NoD H' r (lf (lean g cur ts) k) ∧ H' L = some (.lst (ps.map V.int)) ∧ ps.length + m = 16 ∧ Same H H', ⟨16, none, a, r, [], ss, rfl, sL _ _ (s1 _ _ ha), .nil, h1.same sL, upd_same, rfl, s1.trans sL⟩, ?_⟩
    rintro m σ' H2 ⟨y5, b, r, ps, cur, rfl, hb, mv, hr2, hL, hm, s2⟩
    have bc := mv.bin bn (by omega)
    have hr2' := hr2
    rw [lf_ints] at hr2
    have ne : 0 < ((rng k).map (lean g cur ts)).length := by rw [List.length_map, rng_length]; omega
    refine ⟨.ref r, rfl, r, _, rfl, hr2.sq, ne, fun x hx hmax => ⟨_, 0, rfl, rfl, _, rfl, ite2 (fun e => ?_) (fun e => ?_)⟩⟩
    · have pos : 0 < x := of_decide_eq_true e
      obtain ⟨j, ej, eno⟩ := first_at hx
      have nx := nxt_of hmax pos ej eno
      refine ⟨fun σ' H' => ∃ m', m' < m ∧ ∃ (y5 : Option V) (b r : Addr) (ps cur : List Int), σ' = [some v, some wv, some (.ref b), some (.ref r), some (.ref L), y5] ∧ H' b = some (.tup (cur.map V.int)) ∧ Mvs g ts k ss ps cur ∧ NoD H' r (lf (lean g cur ts) k) ∧ H' L = some (.lst (ps.map V.int)) ∧ ps.length + m' = 16 ∧ Same H H', fun _ _ h => h, ?_⟩
      refine ⟨.ref L, rfl, L, _, rfl, .inl (SqL.of hL), rfl, _, rfl, ite2 (fun e2 => ?_) (fun e2 => ?_)⟩
      · have hl16 : ((ps.map V.int).length : Int) = 16 := V.int.inj (of_decide_eq_true e2)
        rw [List.length_map] at hl16
        exact qe ps cur j H2 mv nx (by omega) s2
      · have hl16 : ps.length ≠ 16 := fun z => e2 (decide_eq_true (by rw [List.length_map, z]; rfl))
        refine ⟨.ref r, rfl, ⟨r, _, rfl, hr2⟩, .ref r, rfl, r, _, rfl, hr2.sq, ne, fun x2 hx2 hmax2 => ?_⟩
        have ex : x2 = x := Int.le_antisymm (hmax _ hx2) (hmax2 _ hx)
        subst ex
        refine ⟨r, _, x2, j, rfl, rfl, hr2.sq, ej, eno, .ref L, rfl, .inl ⟨rfl, _, SqL.of hL⟩, .int j, rfl, L, _, _, rfl, rfl, hL, by rw [List.length_map]; exact small1000 (by omega), ?_⟩
        have hb3 := tk_lst (ys := ps.map V.int ++ [.int j]) hL _ _ hb
        have s3 : Same H (upd H2 L (.lst (ps.map V.int ++ [.int j]))) := Same.mut s2 nL0
        have hL3 : (upd H2 L (.lst (ps.map V.int ++ [.int j]))) L = some (.lst ((ps ++ [(j : Int)]).map V.int)) := by rw [upd_same, List.map_append]; rfl
        generalize upd H2 L (.lst (ps.map V.int ++ [.int j])) = H3 at hb3 s3 hL3
        refine ⟨.ref b, rfl, .int j, rfl, b, cur, j, rfl, hb3, by omega, nx.1, by rw [bc.2]; exact nx.2.1, fun b4 H4 s4 h4 => ?_⟩
        have s04 := s3.trans s4
        refine ⟨v, rfl, wv, rfl, .ref b4, rfl, v, wv, b4, k, ts, moved cur j, g, rfl, hW.tk (Same.tk s04), ok, hw.tk (Same.tk s04), h4, by rw [moved_len, bc.2], fun r5 H5 s5 h5 => ?_⟩
        rw [Int.toNat_natCast] at h5
        exact ⟨m - 1, by omega, _, b4, r5, ps ++ [(j : Int)], moved cur j, rfl, s5 _ _ h4, mv.snoc nx, h5, s5 _ _ (s4 _ _ hL3), by rw [List.length_append]; simp only [List.length_cons, List.length_nil]; omega, s04.trans s5⟩
    · have c : Calm g ts k cur := fun q h0 h1 => by
        have := hmax _ (List.mem_map_of_mem (mem_rng.mpr ⟨h0, h1⟩) : lean g cur ts q ∈ _)
        have hx0 : ¬ 0 < x := fun z => e (decide_eq_true z)
        omega
      refine ⟨.ref b, rfl, .ref L, rfl, L, _, rfl, .inl ⟨SqL.of hL, fun t nt => ⟨by show 2 ≤ sizeLine; decide, fun R nR => ?_⟩⟩⟩
      have sR := same_new (o := .tup [.ref b, .ref t]) nR
      have st := (same_new (o := .tup (ps.map V.int)) nt).trans sR
      exact q ps cur b R t _ mv c (by omega) (s2.trans st) upd_same (st _ _ hb) (sR _ _ upd_same)
theorem ok_l_told {f : Addr} {fd : FuncData} {D W C1 C2 C3 C4 C5 : Addr} (F : Fun K "_law_told" "_law_told" s_l_told f fd) (M : Free mg) (mve : mg "ValueError" = none) (T : RefT K mg "TooMany" D W) (t0 : KitT K mg D "TooMany" D true) (t1 : KitT K mg D "NoFrame" C1 false) (t2 : KitT K mg D "NoRow" C2 false) (t3 : KitT K mg D "NoText" C3 false) (t4 : KitT K mg D "NoTie" C4 false) (t5 : KitT K mg D "NotFlat" C5 false) (t6 : PySem.W.kitOne K (.ref D) (.type "ValueError") = some true)
    (D_settled : DfX P w K mg base 3 "settled" ["web", "weights", "sides"] (spSettled D)) : FnOk P w K mg base CX0 4 f fd ["_law_web_here", "_law_weights_here", "_law_sides_here"] spTold := by
  obtain ⟨fS, fdS, GS, gS, kS, bS⟩ := D_settled
  refine F.ok sc_l_told (fun vs H Q E h => ?_) (fun cdv A outer s H vs Q E hr h => ?_)
  · obtain ⟨v, wv, a, n, ts, ss, g, rfl, _⟩ := h
    rfl
  · obtain ⟨v, wv, a, n, ts, ss, g, rfl, hW, ok, hw, ha, hl, bn, q, qe⟩ := h
    refine ⟨_, (pss_cons (ps_set (i := 3) sc_l_told.nd rfl (.inl rfl) pe_non)
      (pss_cons (ps_set (i := 4) sc_l_told.nd rfl (.inl rfl) (pe_lst pa_nil))
      (pss_cons (ps_try_as (i := 5) (tb := fun W => tAsg (tCallS (spSettled D) (WE W) (tCons (tVar 0) (tCons (tVar 1) (tCons (tVar 2) tNil)))) (gName 3))
          (ts := fun a cls d => tSeq (tAsg (tLst (tCons (tCB (rIsX K a cls d) (tCons (tVar 5) (tCons (tC (.ref D)) tNil))) (tCons (tCB (rIsX K a cls d) (tCons (tVar 5) (tCons (tC (.ref C1)) tNil))) (tCons (tCB (rIsX K a cls d) (tCons (tVar 5) (tCons (tC (.ref C2)) tNil))) (tCons (tCB (rIsX K a cls d) (tCons (tVar 5) (tCons (tC (.ref C3)) tNil))) tNil))))) (gName 4))
            (tAsg (tOp rCat (tVar 4) (tLst (tCons (tCB (rIsX K a cls d) (tCons (tVar 5) (tCons (tC (.ref C4)) tNil))) (tCons (tCB (rIsX K a cls d) (tCons (tVar 5) (tCons (tC (.ref C5)) tNil))) (tCons (tCB (rIsX K a cls d) (tCons (tVar 5) (tCons (tC (.ty "ValueError")) tNil))) tNil))))) (gName 4)))
          (Wout := fun _ _ _ _ => False) rfl rfl sc_l_told.nd rfl rfl ⟨rfl, by decide, .inl T.gW⟩ takes0
          (fun W pn xe tk _ => pss_one (ps_set (i := 3) sc_l_told.nd rfl (.inl rfl) (by exact (pe_callS GS hr rfl gS kS bS (fun σ => passAt tk σ) (by exact (pa_cons (pv 0) (pa_cons (pv 1) (pa_cons (pv 2) pa_nil))))))))
          (fun a oe cls d pn hz hf => pss_cons (ps_set (i := 4) sc_l_told.nd rfl (.inl rfl) (by exact (pe_lst (pa_cons (pe_callB (call_isX hz hf) (by rfl) M.isinstance (by decide +kernel) (pa_cons (pv 5) (pa_cons (pe_glob rfl t0.g rfl) pa_nil))) (pa_cons (pe_callB (call_isX hz hf) (by rfl) M.isinstance (by decide +kernel) (pa_cons (pv 5) (pa_cons (pe_glob rfl t1.g rfl) pa_nil))) (pa_cons (pe_callB (call_isX hz hf) (by rfl) M.isinstance (by decide +kernel) (pa_cons (pv 5) (pa_cons (pe_glob rfl t2.g rfl) pa_nil))) (pa_cons (pe_callB (call_isX hz hf) (by rfl) M.isinstance (by decide +kernel) (pa_cons (pv 5) (pa_cons (pe_glob rfl t3.g rfl) pa_nil))) pa_nil)))))))
            (pss_one (ps_set (i := 4) sc_l_told.nd rfl (.inl rfl) (by exact (pe_op op_cat (pv 4) (pe_lst (pa_cons (pe_callB (call_isX hz hf) (by rfl) M.isinstance (by decide +kernel) (pa_cons (pv 5) (pa_cons (pe_glob rfl t4.g rfl) pa_nil))) (pa_cons (pe_callB (call_isX hz hf) (by rfl) M.isinstance (by decide +kernel) (pa_cons (pv 5) (pa_cons (pe_glob rfl t5.g rfl) pa_nil))) (pa_cons (pe_callB (call_isX hz hf) (by rfl) M.isinstance (by decide +kernel) (pa_cons (pv 5) (pa_cons (pe_bltn (v := .ty "ValueError") rfl mve (by decide +kernel) rfl) pa_nil))) pa_nil)))))))))
          )
      (pss_one (ps_ret (pe_tup (pa_cons (pv 4) (pa_cons (pv 3) pa_nil)))))))), ?_⟩
    refine ⟨Nat.zero_le _, fun Z nZ => ?_⟩
    have sZ := same_new (o := .lst []) nZ
    refine ⟨v, rfl, wv, rfl, .ref a, rfl, v, wv, a, n, ts, ss, g, rfl, hW.tk (Same.tk sZ), ok, hw.tk (Same.tk sZ), sZ _ _ ha, hl, bn, fun ps cur b r t H1 mv c le s1 h1 h2 h3 => ?_, fun ps cur p H1 mv nx le s1 => ?_⟩
    · refine ⟨.ref Z, rfl, .ref r, rfl, by show 2 ≤ sizeLine; decide, fun R nR => ?_⟩
      have sR := same_new (o := .tup [.ref Z, .ref r]) nR
      exact q ps cur b r t Z R _ mv c le ((sZ.trans s1).trans sR) upd_same (sR _ _ (s1 _ _ upd_same)) (sR _ _ h1) (sR _ _ h2) (sR _ _ h3)
    · have cv : ∀ C : Addr, ∀ u, RelV (.ref C) u → u = Value.ref C := fun C u h => h
      refine ⟨true, T.web, fun _ x nx' => ?_, fun z => Bool.noConfusion z⟩
      refine ⟨.ref x, rfl, D, T.ec, rfl, rfl, _, _, _, rfl, cv D, t0.k, .ref x, rfl, D, T.ec, rfl, rfl, _, _, _, rfl, cv C1, t1.k, .ref x, rfl, D, T.ec, rfl, rfl, _, _, _, rfl, cv C2, t2.k, .ref x, rfl, D, T.ec, rfl, rfl, _, _, _, rfl, cv C3, t3.k, by show 4 ≤ sizeLine; decide, fun O nO => ?_⟩
      refine ⟨.ref O, rfl, .ref x, rfl, D, T.ec, rfl, rfl, _, _, _, rfl, cv C4, t4.k, .ref x, rfl, D, T.ec, rfl, rfl, _, _, _, rfl, cv C5, t5.k, .ref x, rfl, D, T.ec, rfl, rfl, _, _, _, rfl, fun u h => h, t6, by show 3 ≤ sizeLine; decide, fun O2 nO2 => ?_⟩
      refine ⟨O, O2, _, _, rfl, rfl, same_new nO2 _ _ upd_same, upd_same, by show 7 ≤ sizeLine; decide, fun O3 nO3 => ?_⟩
      refine ⟨.ref O3, rfl, .non, rfl, by show 2 ≤ sizeLine; decide, fun R nR => ?_⟩
      have sR := same_new (o := .tup [.ref O3, .non]) nR
      exact qe ps cur p O3 R _ mv nx le ((((sZ.trans s1).trans (same_new nO)).trans (same_new nO2)).trans ((same_new nO3).trans sR)) upd_same (sR _ _ upd_same)
end
/-! ### k72 -/
theorem lf_succ (f : Int → Int) (n : Nat) : lf f (n + 1) = lf f n ++ [V.int (f n)] := by
  unfold lf
  rw [rng_succ, List.map_append]
  rfl
theorem atI_last' (xs : List V) (v : V) : atI (xs ++ [v]) (-1) = some v := atI_last xs v
def spDue : Sp := fun vs H Q _ => ∃ (v wv : V) (a : Addr) (n : Int) (ts : List Tie) (ss : List Int) (g : Int → Int), vs = [v, wv, .ref a] ∧ WebAt H v n ts ∧ WebOk n ts ∧ Wts H wv (rng ts.length) g ∧ H a = some (.tup (ss.map V.int)) ∧ (ss.length : Int) = n ∧ Bin ss ∧
  (∀ ps cur b r t H', Mvs g ts n.toNat ss ps cur → (ps.length ≤ 16 ∧ Calm g ts n.toNat cur ∨ ps.length = 17) → Same H H' → H' r = some (.tup [.ref b, .ref t]) → H' b = some (.tup (cur.map V.int)) → H' t = some (.tup (ps.map V.int)) → Q (.ref r) H')
section
variable {P : Program} {w : World} {K : PySem.W.Frag} {mg : Str → Option Value} {base : Heap}
theorem ok_l_due {f : Addr} {fd : FuncData} (F : Fun K "_law_due" "_law_due" s_l_due f fd) (M : Free mg) (mmax : mg "max" = none) (D_l_lean : Df P w K mg base 2 "_law_lean" ["_law_web_here", "_law_weights_here", "_law_sides_here", "_law_place"] spLLean) : FnOk P w K mg base CX0 3 f fd ["_law_web_here", "_law_weights_here", "_law_sides_here"] spDue := by
  obtain ⟨f_l_lean, fd_l_lean, G_l_lean, g_l_lean, k_l_lean, b_l_lean⟩ := D_l_lean
  refine F.ok sc_l_due (fun vs H Q E h => ?_) (fun cdv A outer s H vs Q E hr h => ?_)
  · obtain ⟨v, wv, a, n, ts, ss, g, rfl, _⟩ := h
    rfl
  · obtain ⟨v, wv, a, n, ts, ss, g, rfl, hW, ok, hw, ha, hl, bn, q⟩ := h
    refine ⟨_, (pss_cons (ps_set (i := 3) sc_l_due.nd rfl (.inl rfl) (pe_lst pa_nil))
      (Evl.pss_cut (ps_setLc (i := 4) (own := [("_law_place", 5)]) (g := gName 5) (tt := tYes) rfl sc_l_due.nd rfl rfl (sw_true rfl rfl rfl (by decide +kernel)) (pi_range1 (by rfl) M.range (pa_cons (pe_ix ix_tup (pv 0) pe_int (fun _ _ => rfl)) pa_nil)) (blkOk_by (N := N_l_due) (sc := defScope s_l_due) (own := [("_law_place", 5)]) (by decide +kernel)) (fun _ _ _ _ _ => (pg_name (i := 5) sc_l_due.nd rfl (.inl rfl))) (fun _ _ _ _ _ => pts_nil) (fun _ _ _ _ _ => (pe_call G_l_lean (hr.mono (by decide)) (by rfl) g_l_lean k_l_lean b_l_lean .nil pass0 (pa_cons (pv 0) (pa_cons (pv 1) (pa_cons (pv 2) (pa_cons (pv 5) pa_nil)))))))
      (pss_cons (ps_while PassesOwn.never (PW.pt (pw_and (pt_cmpR op_gt (pe_callB (cr_max rfl) (by rfl) mmax (by decide +kernel) (pa_cons (pv 4) pa_nil)) pe_int (nomark _)) (pw_and1 (pt_cmpR op_lt (pe_callB call_len_seq (by rfl) M.len PySem.boot_len (pa_cons (pv 3) pa_nil)) pe_int (nomark _)))))
        (pss_cons (ps_expr (pe_bm PySem.F.plainAttrs_list PySem.F.slot_list_append PySem.F.type_list_append mt_append (pv 3) (pa_cons (pe_bm PySem.F.plainAttrs_list PySem.F.slot_list_index PySem.F.type_list_index mt_index (pv 4) (pa_cons (pe_callB (cr_max rfl) (by rfl) mmax (by decide +kernel) (pa_cons (pv 4) pa_nil)) pa_nil)) pa_nil)))
        (Evl.pss_cut (ps_set (i := 2) sc_l_due.nd rfl (.inr rfl) (pe_op op_catU (pe_op op_catU (pe_slice sl_tupU (pv 2) po_none (po_some (pe_ix ix_list (pv 3) (pe_un un_neg pe_int) (fun _ _ => rfl)))) (pe_tup (pa_cons (pe_op op_sub pe_int (pe_ix ix_tup (pv 2) (pe_ix ix_list (pv 3) (pe_un un_neg pe_int) (fun _ _ => rfl)) (fun _ _ => rfl))) pa_nil))) (pe_slice sl_tupU (pv 2) (po_some (pe_op op_add (pe_ix ix_list (pv 3) (pe_un un_neg pe_int) (fun _ _ => rfl)) pe_int)) po_none)))
        (pss_one (ps_setLc (i := 4) (own := [("_law_place", 5)]) (g := gName 5) (tt := tYes) rfl sc_l_due.nd rfl rfl (sw_true rfl rfl rfl (by decide +kernel)) (pi_range1 (by rfl) M.range (pa_cons (pe_ix ix_tup (pv 0) pe_int (fun _ _ => rfl)) pa_nil)) (blkOk_by (N := N_l_due) (sc := defScope s_l_due) (own := [("_law_place", 5)]) (by decide +kernel)) (fun _ _ _ _ _ => (pg_name (i := 5) sc_l_due.nd rfl (.inl rfl))) (fun _ _ _ _ _ => pts_nil) (fun _ _ _ _ _ => (pe_call G_l_lean (hr.mono (by decide)) (by rfl) g_l_lean k_l_lean b_l_lean .nil pass0 (pa_cons (pv 0) (pa_cons (pv 1) (pa_cons (pv 2) (pa_cons (pv 5) pa_nil)))))))))))
      (pss_one (ps_ret (pe_tup (pa_cons (pv 2) (pa_cons (pe_callTy call_tuple_of (by rfl) M.tuple (by decide +kernel) (pa_cons (pv 3) pa_nil)) pa_nil)))))))), ?_⟩
    obtain ⟨wa, wb, us, rfl, hwa, hwb, hp⟩ := id hW
    obtain ⟨k, rfl⟩ : ∃ k : Nat, n = k := ⟨n.toNat, by have := ok.lo; omega⟩
    have hk := ok.hi
    have hk1 := ok.lo
    rw [Int.toNat_natCast] at q
    refine ⟨Nat.zero_le _, fun L nL => ?_⟩
    have sL := same_new (o := .lst []) nL
    refine ⟨fun σ' H' => ∃ S : Addr, σ' = [some (.ref wa), some wv, some (.ref a), some (.ref L), some (.ref S), none] ∧ S ≠ L ∧ H' L = some (.lst []) ∧ H' S = some (.lst (lf (lean g ss ts) k)) ∧ Same H H', ?_, ?_⟩
    · refine ⟨.ref wa, rfl, wa, _, 0, .int k, rfl, rfl, SqT.of (sL _ _ hwa), rfl, k, rfl, by omega, by omega, fun S nS => ?_⟩
      rw [Int.toNat_natCast]
      have hLS : L ≠ S := ne_of_none upd_same nS
      refine lc_range (lo := 0) (n := k) (fun i H' => H' S = some (.lst (lf (lean g ss ts) i)) ∧ H' L = some (.lst []) ∧ Same H H') ⟨upd_same, same_new nS _ _ upd_same, sL.trans (same_new nS)⟩ ?_ ?_
      · rintro j H1 hj ⟨hS, hL1, s1⟩
        rw [show (0 : Int) + (j : Nat) = j from by omega]
        refine ⟨rfl, .ref wa, rfl, wv, rfl, .ref a, rfl, .int j, rfl, .ref wa, wv, a, k, ts, ss, g, j, rfl, hW.tk (Same.tk s1), ok, hw.tk (Same.tk s1), s1 _ _ ha, hl, fun H2 s2 => ?_⟩
        exact ⟨_, s2 _ _ hS, by rw [lf_len]; exact small1000 (by omega), by rw [upd_same, lf_succ], by rw [upd_ne hLS]; exact s2 _ _ hL1, Same.mut (s1.trans s2) (sL.free nS)⟩
      · rintro H1 ⟨hS, hL1, s1⟩
        exact ⟨S, rfl, hLS.symm, hL1, hS, s1⟩
    rintro σ' H0 ⟨S, rfl, hSL, hL0, hS0, s0⟩
    refine ⟨fun m σ' H' => ∃ (b S : Addr) (ps cur : List Int), σ' = [some (.ref wa), some wv, some (.ref b), some (.ref L), some (.ref S), none] ∧ S ≠ L ∧ H' b = some (.tup (cur.map V.int)) ∧ Mvs g ts k ss ps cur ∧ H' S = some (.lst (lf (lean g cur ts) k)) ∧ H' L = some (.lst (ps.map V.int)) ∧ ps.length + m = 17 ∧ Same H H', ⟨17, a, S, [], ss, rfl, hSL, s0 _ _ ha, .nil, hS0, hL0, rfl, s0⟩, ?_⟩
    clear hSL hL0 hS0 s0 H0 S
    rintro m σ' H2 ⟨b, S, ps, cur, rfl, hSL, hb, mv, hS, hL, hm, s2⟩
    have bc := mv.bin bn (by omega)
    rw [lf_ints] at hS
    have ne : 0 < ((rng k).map (lean g cur ts)).length := by rw [List.length_map, rng_length]; omega
    refine ⟨.ref S, rfl, S, _, rfl, SqL.of hS, ne, fun x hx hmax => ⟨_, 0, rfl, rfl, _, rfl, ?_⟩⟩
    have calm : ¬ 0 < x → Calm g ts k cur := fun hx0 q h0 h1 => by
      have := hmax _ (List.mem_map_of_mem (mem_rng.mpr ⟨h0, h1⟩) : lean g cur ts q ∈ _)
      omega
    have fin : ∀ (h : ps.length ≤ 16 ∧ Calm g ts k cur ∨ ps.length = 17), tRet (tTup (tCons (tVar 2) (tCons (tCB (fun xs H Q => ∃ p ys, xs = [V.ref p] ∧ (SqL K H p ys ∧ (∀ l, H l = none → Q (V.ref l) (upd H l (.tup ys))) ∨ SqT K H p ys ∧ Q (V.ref p) H)) (tCons (tVar 3) tNil)) tNil))) { nx := fun _ H' => Q .non H', rt := Q } [some (.ref wa), some wv, some (.ref b), some (.ref L), some (.ref S), none] H2 := fun h => by
      refine ⟨.ref b, rfl, .ref L, rfl, L, _, rfl, .inl ⟨SqL.of hL, fun t nt => ⟨by show 2 ≤ sizeLine; decide, fun R nR => ?_⟩⟩⟩
      have sR := same_new (o := .tup [.ref b, .ref t]) nR
      have st := (same_new (o := .tup (ps.map V.int)) nt).trans sR
      exact q ps cur b R t _ mv h (s2.trans st) upd_same (st _ _ hb) (sR _ _ upd_same)
    by_cases pos : 0 < x
    · rw [decide_eq_true pos]
      refine ⟨.ref L, rfl, L, _, rfl, .inl (SqL.of hL), _, 17, rfl, rfl, _, rfl, ite2 (fun e2 => ?_) (fun e2 => ?_)⟩
      · have hlt := of_decide_eq_true e2
        rw [List.length_map] at hlt
        obtain ⟨j, ej, eno⟩ := first_at hx
        have nx := nxt_of hmax pos ej eno
        refine ⟨fun σ' H' => ∃ m', m' < m ∧ ∃ (b S : Addr) (ps cur : List Int), σ' = [some (.ref wa), some wv, some (.ref b), some (.ref L), some (.ref S), none] ∧ S ≠ L ∧ H' b = some (.tup (cur.map V.int)) ∧ Mvs g ts k ss ps cur ∧ H' S = some (.lst (lf (lean g cur ts) k)) ∧ H' L = some (.lst (ps.map V.int)) ∧ ps.length + m' = 17 ∧ Same H H', fun _ _ h => h, ?_⟩
        refine ⟨.ref L, rfl, .inl ⟨rfl, _, SqL.of hL⟩, .ref S, rfl, .inl ⟨rfl, _, SqL.of hS⟩, .ref S, rfl, S, _, rfl, SqL.of hS, ne, fun x2 hx2 hmax2 => ?_⟩
        have ex : x2 = x := Int.le_antisymm (hmax _ hx2) (hmax2 _ hx)
        subst ex
        refine ⟨S, _, .int x2, j, .int x2, rfl, rfl, SqL.of hS, rfl, flat_ints _, by rw [List.getElem?_map, ej]; rfl, by show (x2 == x2) = true; simp, fun i z hi hz => ?_, L, _, _, rfl, rfl, hL, by rw [List.length_map]; exact small1000 (by omega), ?_⟩
        · rw [List.getElem?_map] at hz
          obtain ⟨y, hy, rfl⟩ := Option.map_eq_some_iff.mp hz
          show (y == x2) = false
          rw [beq_eq_false_iff_ne]
          intro z
          rw [z] at hy
          exact eno i hi hy
        have hb3 := tk_lst (ys := ps.map V.int ++ [.int j]) hL _ _ hb
        have s3 : Same H (upd H2 L (.lst (ps.map V.int ++ [.int j]))) := Same.mut s2 nL
        have hL3 : (upd H2 L (.lst (ps.map V.int ++ [.int j]))) L = some (.lst (ps.map V.int ++ [.int j])) := upd_same
        have hS3 : (upd H2 L (.lst (ps.map V.int ++ [.int j]))) S = some (.lst (((rng k).map (lean g cur ts)).map V.int)) := by rw [upd_ne hSL]; exact hS
        generalize upd H2 L (.lst (ps.map V.int ++ [.int j])) = H3 at hb3 s3 hL3 hS3
        -- sides
        refine ⟨fun σ' H' => ∃ b : Addr, σ' = [some (.ref wa), some wv, some (.ref b), some (.ref L), some (.ref S), none] ∧ H' b = some (.tup ((moved cur j).map V.int)) ∧ Same H3 H', ?_, ?_⟩
        · have p0 := nx.1
          have pl : (j : Int) < cur.length := by rw [bc.2]; exact nx.2.1
          have lc1 := cutV_length (cur.map V.int) none (some (j : Int))
          have lc2 := cutV_length (cur.map V.int) (some ((j : Int) + 1)) none
          rw [List.length_map] at lc1 lc2
          have hcl := bc.2
          refine ⟨.ref b, rfl, .ref L, rfl, 1, rfl, L, _, -1, .int j, rfl, rfl, SqL.of hL3, atI_last _ _, j, rfl, b, _, rfl, hb3, fun r1 H5 s5 h5 => ?_⟩
          refine ⟨.ref b, rfl, .ref L, rfl, 1, rfl, L, _, -1, .int j, rfl, rfl, SqL.of (s5 _ _ hL3), atI_last _ _, b, _, j, _, rfl, rfl, SqT.of (s5 _ _ hb3), atI_sd p0 pl, 1, _, rfl, rfl, by show 1 ≤ sizeLine; decide, fun r2 n2 => ?_⟩
          have s6 := s5.trans (same_new (o := .tup [.int (1 - sd cur j)]) n2)
          refine ⟨r1, r2, _, _, rfl, rfl, same_new n2 _ _ h5, upd_same, by simp only [List.length_cons, List.length_nil]; omega, fun r3 H7 s7 h7 => ?_⟩
          have s67 := s6.trans s7
          refine ⟨.ref b, rfl, .ref L, rfl, 1, rfl, L, _, -1, .int j, rfl, rfl, SqL.of (s67 _ _ hL3), atI_last _ _, j, 1, rfl, rfl, _, rfl, b, _, rfl, s67 _ _ hb3, fun r4 H8 s8 h8 => ?_⟩
          refine ⟨r3, r4, _, _, rfl, rfl, s8 _ _ h7, h8, by rw [List.length_append]; simp only [List.length_cons, List.length_nil]; omega, fun r5 H9 s9 h9 => ?_⟩
          rw [moved_cut p0 pl] at h9
          exact ⟨r5, rfl, h9, (s67.trans s8).trans s9⟩
        rintro σ' H4 ⟨b4, rfl, hb4, s4⟩
        have s04 := s3.trans s4
        have hL4 := s4 _ _ hL3
        have lm : ((moved cur j).length : Int) = k := by rw [moved_len, bc.2]
        refine ⟨.ref wa, rfl, wa, _, 0, .int k, rfl, rfl, SqT.of (s04 _ _ hwa), rfl, k, rfl, by omega, by omega, fun S2 nS2 => ?_⟩
        rw [Int.toNat_natCast]
        have hLS : L ≠ S2 := ne_of_none hL4 nS2
        refine lc_range (lo := 0) (n := k) (fun i H' => H' S2 = some (.lst (lf (lean g (moved cur j) ts) i)) ∧ Same H4 H') ⟨upd_same, same_new nS2⟩ ?_ ?_
        · rintro i H5 hi ⟨hS5, s5⟩
          rw [show (0 : Int) + (i : Nat) = i from by omega]
          have s05 := s04.trans s5
          refine ⟨rfl, .ref wa, rfl, wv, rfl, .ref b4, rfl, .int i, rfl, .ref wa, wv, b4, k, ts, moved cur j, g, i, rfl, hW.tk (Same.tk s05), ok, hw.tk (Same.tk s05), s5 _ _ hb4, lm, fun H6 s6 => ?_⟩
          exact ⟨_, s6 _ _ hS5, by rw [lf_len]; exact small1000 (by omega), by rw [upd_same, lf_succ], Same.mut (s5.trans s6) nS2⟩
        · rintro H5 ⟨hS5, s5⟩
          refine ⟨m - 1, by omega, b4, S2, ps ++ [(j : Int)], moved cur j, rfl, hLS.symm, s5 _ _ hb4, mv.snoc nx, hS5, ?_, by rw [List.length_append]; simp only [List.length_cons, List.length_nil]; omega, s04.trans s5⟩
          rw [List.map_append]
          exact s5 _ _ hL4
      · have hge : ¬ ((ps.map V.int).length : Int) < 17 := fun z => e2 (decide_eq_true z)
        rw [List.length_map] at hge
        exact fin (.inr (by omega))
    · rw [decide_eq_false pos]
      by_cases h17 : ps.length = 17
      · exact fin (.inr h17)
      · exact fin (.inl ⟨by omega, calm pos⟩)
def spLaw (K : PySem.W.Frag) : Sp := fun vs H Q _ => ∃ (a : Addr) (ns : List Int), vs = [.ref a] ∧ SqL K H a (ns.map V.int) ∧ ns.length ≤ 63 ∧ ∀ H', Q (.bl true) H'
theorem dp_bls {H : Hp} : ∀ (xs : List Bool), DpAll K H (xs.map V.bl) (xs.map PyData.bool)
  | [] => .nil
  | x :: xs => .cons (.bl x) (dp_bls xs)
theorem two_lk {H : Hp} {a b a1 a2 b1 b2 : Addr} {xs ys : List Int} (h : H a = some (.tup [.ref a1, .ref a2])) (g : H b = some (.tup [.ref b1, .ref b2])) (h1 : H a1 = some (.tup (xs.map V.int))) (g1 : H b1 = some (.tup (xs.map V.int))) (h2 : H a2 = some (.tup (ys.map V.int))) (g2 : H b2 = some (.tup (ys.map V.int))) (lx : xs.length ≤ 900) (ly : ys.length ≤ 900) : Lk H 2 (.ref a) (.ref b) := by
  refine .inr (.inr ⟨a, b, _, _, rfl, rfl, h, g, rfl, by show 2 ≤ 900; decide, fun i x y e1 e2 => ?_⟩)
  match i with
  | 0 => simp at e1 e2; subst e1 e2; exact ints_lk h1 g1 lx
  | 1 => simp at e1 e2; subst e1 e2; exact ints_lk h2 g2 ly
  | i + 2 => simp at e1
theorem sql_ne {K : PySem.W.Frag} {H : Hp} {a d : Addr} {xs : List V} (h : SqL K H a xs) (nd : H d = none) : a ≠ d ∨ ∀ H', SqL K H' a xs := by
  rcases h with (h | ⟨o, h⟩) | h
  · exact .inl (ne_of_none h nd)
  · exact .inl (ne_of_none h nd)
  · exact .inr fun _ => .inr h
theorem sql_well {K : PySem.W.Frag} {H H' : Hp} {a d : Addr} {xs : List V} (h : SqL K H a xs) (ne : a ≠ d ∨ ∀ H', SqL K H' a xs) (k : Kp d d H H') : SqL K H' a xs := by
  rcases ne with ne | f
  · rcases h with (h | ⟨o, h⟩) | h
    · exact .inl (.inl (k _ _ ne ne h))
    · exact .inl (.inr ⟨o, k _ _ ne ne h⟩)
    · exact .inr h
  · exact f H'
theorem ok_law {f : Addr} {fd : FuncData} (F : Fun K "law" "law" s_law f fd) (M : Free mg) (D_l_well : Df P w K mg base 1 "_law_well" ["_law_script", "_law_k"] (spWell K)) (D_l_web : Df P w K mg base 2 "_law_web" ["_law_well_here"] spWeb) (D_l_weights : Df P w K mg base 2 "_law_weights" ["_law_well_here", "_law_web_here"] spWeightsL) (D_l_sides : Df P w K mg base 2 "_law_sides" ["_law_well_here", "_law_many"] spSidesL)
    (D_l_due : Df P w K mg base 3 "_law_due" ["_law_web_here", "_law_weights_here", "_law_sides_here"] spDue) (D_l_told : Df P w K mg base 4 "_law_told" ["_law_web_here", "_law_weights_here", "_law_sides_here"] spTold) (D_l_same : Df P w K mg base 3 "_law_same" ["_law_found", "_law_due_here"] (spSame 3)) : FnOk P w K mg base CX0 5 f fd ["_law_script"] (spLaw K) := by
  obtain ⟨f_l_well, fd_l_well, G_l_well, g_l_well, k_l_well, b_l_well⟩ := D_l_well
  obtain ⟨f_l_web, fd_l_web, G_l_web, g_l_web, k_l_web, b_l_web⟩ := D_l_web
  obtain ⟨f_l_weights, fd_l_weights, G_l_weights, g_l_weights, k_l_weights, b_l_weights⟩ := D_l_weights
  obtain ⟨f_l_sides, fd_l_sides, G_l_sides, g_l_sides, k_l_sides, b_l_sides⟩ := D_l_sides
  obtain ⟨f_l_due, fd_l_due, G_l_due, g_l_due, k_l_due, b_l_due⟩ := D_l_due
  obtain ⟨f_l_told, fd_l_told, G_l_told, g_l_told, k_l_told, b_l_told⟩ := D_l_told
  obtain ⟨f_l_same, fd_l_same, G_l_same, g_l_same, k_l_same, b_l_same⟩ := D_l_same
  refine F.ok sc_law (fun vs H Q E h => ?_) (fun cdv A outer s H vs Q E hr h => ?_)
  · obtain ⟨a, ns, rfl, _⟩ := h
    rfl
  · obtain ⟨sc, ns, rfl, hS, hlen, q⟩ := h
    refine ⟨_, (pss_cons (ps_for PassesOwn.never rfl (pi_range1 (by rfl) M.range (pa_cons pe_int pa_nil)) (pg_name (i := 1) sc_law.nd rfl (.inl rfl))
        (pss_cons (ps_set (i := 2) sc_law.nd rfl (.inl rfl) (pe_call G_l_well (hr.mono (by decide)) (by rfl) g_l_well k_l_well b_l_well .nil pass0 (pa_cons (pv 0) (pa_cons (pv 1) pa_nil))))
        (pss_cons (ps_set (i := 3) sc_law.nd rfl (.inl rfl) (pe_call G_l_web (hr.mono (by decide)) (by rfl) g_l_web k_l_web b_l_web .nil pass0 (pa_cons (pv 2) pa_nil)))
        (pss_cons (ps_set (i := 4) sc_law.nd rfl (.inl rfl) (pe_call G_l_weights (hr.mono (by decide)) (by rfl) g_l_weights k_l_weights b_l_weights .nil pass0 (pa_cons (pv 2) (pa_cons (pv 3) pa_nil))))
        (pss_cons (ps_set (i := 5) sc_law.nd rfl (.inl rfl) (pe_call G_l_sides (hr.mono (by decide)) (by rfl) g_l_sides k_l_sides b_l_sides .nil pass0 (pa_cons (pv 2) (pa_cons (pe_ix ix_tup (pv 3) pe_int (fun _ _ => rfl)) pa_nil))))
        (pss_cons (ps_set (i := 6) sc_law.nd rfl (.inl rfl) (pe_call G_l_due (hr.mono (by decide)) (by rfl) g_l_due k_l_due b_l_due .nil pass0 (pa_cons (pv 3) (pa_cons (pv 4) (pa_cons (pv 5) pa_nil)))))
        (pss_cons (ps_asg (pe_call G_l_told (hr.mono (by decide)) (by rfl) g_l_told k_l_told b_l_told .nil pass0 (pa_cons (pv 3) (pa_cons (pv 4) (pa_cons (pv 5) pa_nil)))) (pg_tup rfl (pgs_cons (pg_name (i := 7) sc_law.nd rfl (.inl rfl)) (pgs_cons (pg_name (i := 8) sc_law.nd rfl (.inl rfl)) pgs_nil))))
        (pss_one (ps_if (pt_cmpR op_gt (pe_callB call_len_seq (by rfl) M.len PySem.boot_len (pa_cons (pe_ix ix_tup (pv 6) pe_int (fun _ _ => rfl)) pa_nil)) pe_int (nomark _))
          (pss_one (ps_if (pt_cmpR (op_neD hr.units) (pv 7) (pe_lst (pa_cons pe_bl (pa_cons pe_bl (pa_cons pe_bl (pa_cons pe_bl (pa_cons pe_bl (pa_cons pe_bl (pa_cons pe_bl pa_nil)))))))) (nomark _))
            (pss_one (ps_ret pe_bl))
            pss_nil))
          (pss_one (ps_if (PW.pt (pw_or (pt_cmpR (op_neE hr.units0) (pv 7) (pe_lst pa_nil) (nomark _)) (pw_or1 (pt_not (pt_val (pe_call G_l_same (hr.mono (by decide)) (by rfl) g_l_same k_l_same b_l_same .nil pass0 (pa_cons (pv 8) (pa_cons (pv 6) pa_nil))))))))
            (pss_one (ps_ret pe_bl))
            (pss_one (ps_if (pt_not (pt_val (pe_call G_l_same (hr.mono (by decide)) (by rfl) g_l_same k_l_same b_l_same .nil pass0 (pa_cons (pe_ix ix_tup (pe_call G_l_told (hr.mono (by decide)) (by rfl) g_l_told k_l_told b_l_told .nil pass0 (pa_cons (pv 3) (pa_cons (pv 4) (pa_cons (pe_ix ix_tup (pv 6) pe_int (fun _ _ => rfl)) pa_nil)))) pe_int (fun _ _ => rfl)) (pa_cons (pe_tup (pa_cons (pe_ix ix_tup (pv 6) pe_int (fun _ _ => rfl)) (pa_cons (pe_tup pa_nil) pa_nil))) pa_nil)))))
              (pss_one (ps_ret pe_bl))
              pss_nil)))))))))))))
      (pss_one (ps_ret pe_bl))), ?_⟩
    refine ⟨2, rfl, by decide, by decide, ?_⟩
    refine for_range (lo := 0) (n := 2) (fun i σ' H' => ∃ y1 y2 y3 y4 y5 y6 y7 y8 : Option V, σ' = [some (.ref sc), y1, y2, y3, y4, y5, y6, y7, y8] ∧ SqL K H' sc (ns.map V.int)) ⟨none, none, none, none, none, none, none, none, rfl, hS⟩ ?_ ?_
    · rintro i σ' H1 hi ⟨y1, y2, y3, y4, y5, y6, y7, y8, rfl, hS1⟩
      rw [show (0 : Int) + (i : Nat) = i from by omega]
      refine ⟨.ref sc, rfl, .int i, rfl, sc, ns, i, rfl, hS1, by omega, fun d H2 s2 nd D2 => ?_⟩
      refine ⟨.ref d, rfl, d, 3, rfl, D2, by decide, fun v0 n ts H3 hW ok D3 K3 => ?_⟩
      obtain ⟨k, rfl⟩ : ∃ k : Nat, n = k := ⟨n.toNat, by have := ok.lo; omega⟩
      have hk := ok.hi
      have hk1 := ok.lo
      obtain ⟨wa, wb, us, rfl, hwa, hwb, hpr⟩ := hW
      have hW3 : WebAt H3 (.ref wa) k ts := ⟨wa, wb, us, rfl, hwa, hwb, hpr⟩
      refine ⟨.ref d, rfl, .ref wa, rfl, d, 1003, .ref wa, k, ts, rfl, D3, by decide, hW3, ok, fun wv g H4 hw _ D4 K4 => ?_⟩
      have hwa4 := K4.tk D3 _ _ hwa
      refine ⟨.ref d, rfl, .ref wa, rfl, wa, _, 0, .int k, rfl, rfl, SqT.of hwa4, rfl, d, 2003, k, rfl, D4, by decide, by omega, by omega, fun a ss H5 ha ls bn D5 K5 => ?_⟩
      have k35 : Tk H3 H5 := (K4.tk D3).trans (K5.tk D4)
      have hW5 := hW3.tk k35
      have hw5 := hw.tk (K5.tk D4)
      have hsd := sql_ne hS1 nd
      have hS5 : SqL K H5 sc (ns.map V.int) := sql_well (sql_well (sql_well (s2.seq hS1) hsd K3) hsd K4) hsd K5
      clear hW3 hw hwa hwb hpr hwa4 D4 D3 K3 K4 K5 k35 hS1 s2 D2 nd D5
      -- due
      refine ⟨.ref wa, rfl, wv, rfl, .ref a, rfl, .ref wa, wv, a, k, ts, ss, g, rfl, hW5, ok, hw5, ha, by omega, bn, fun ps cur b r t H6 mv hend s6 hr6 hb6 ht6 => ?_⟩
      rw [Int.toNat_natCast] at mv hend
      have bc := mv.bin bn ls
      -- told
      refine ⟨.ref wa, rfl, wv, rfl, .ref a, rfl, .ref wa, wv, a, k, ts, ss, g, rfl, hW5.tk (Same.tk s6), ok, hw5.tk (Same.tk s6), s6 _ _ ha, by omega, bn, fun ps2 cur2 b2 r2 t2 z R H7 mv2 c2 le2 s7 hR hz hr2 hb2 ht2 => ?_, fun ps2 cur2 p2 z R H7 mv2 nx2 le2 s7 hR hz => ?_⟩
      · rw [Int.toNat_natCast] at mv2 c2
        have le := mv2.calm_le mv c2
        have hend2 : ps.length ≤ 16 ∧ Calm g ts k cur := by
          rcases hend with h | h
          · exact h
          · omega
        have le3 := mv.calm_le mv2 hend2.2
        obtain ⟨e1, e2⟩ := mv2.end_uniq mv (by omega)
        rw [e1] at ht2
        rw [e2] at hb2
        refine ⟨R, _, rfl, SqT.of hR, rfl, _, _, rfl, _, _, rfl, rfl, ?_⟩
        refine ⟨.ref r, rfl, r, _, 1, .ref t, rfl, rfl, SqT.of (s7 _ _ hr6), rfl, t, _, rfl, .inr (SqT.of (s7 _ _ ht6)), _, 16, rfl, rfl, _, rfl, ?_⟩
        rw [decide_eq_false (by rw [List.length_map]; omega)]
        refine ⟨.ref z, rfl, Nat.zero_le _, fun O nO => ?_⟩
        have sO := same_new (o := .lst []) nO
        refine ⟨z, O, [], rfl, rfl, SqL.of (sO _ _ hz), SqL.of upd_same, _, rfl, ?_⟩
        have t8 : Same H7 (upd H7 O (.lst [])) := sO
        refine ⟨.ref r2, rfl, .ref r, rfl, _, _, rfl, two_lk (t8 _ _ hr2) (t8 _ _ (s7 _ _ hr6)) (t8 _ _ hb2) (t8 _ _ (s7 _ _ hb6)) (t8 _ _ ht2) (t8 _ _ (s7 _ _ ht6)) (by rw [bc.2]; omega) (by omega), fun H9 s9 => ⟨true, rfl, ?_⟩⟩
        have s69 := (s7.trans t8).trans s9
        have s59 := s6.trans s69
        refine ⟨.ref wa, rfl, wv, rfl, .ref r, rfl, r, _, 0, .ref b, rfl, rfl, SqT.of (s69 _ _ hr6), rfl, .ref wa, wv, b, k, ts, cur, g, rfl, hW5.tk (Same.tk s59), ok, hw5.tk (Same.tk s59), s69 _ _ hb6, by rw [bc.2], bc.1, fun ps3 cur3 b3 r3 t3 z3 R3 H10 mv3 c3 le3 s10 hR3 hz3 hr3 hb3 ht3 => ?_, fun ps3 cur3 p3 z3 R3 H10 mv3 nx3 le3 s10 hR3 hz3 => ?_⟩
        · rw [Int.toNat_natCast] at mv3 c3
          have hps3 : ps3.length ≤ 0 := (Mvs.nil (s0 := cur)).calm_le mv3 hend2.2
          obtain ⟨e3, e4⟩ := mv3.end_uniq (.nil (s0 := cur)) (by simp; exact List.eq_nil_of_length_eq_zero (by omega))
          rw [e3] at ht3
          rw [e4] at hb3
          refine ⟨R3, _, 1, .ref r3, rfl, rfl, SqT.of hR3, rfl, .ref r, rfl, r, _, 0, .ref b, rfl, rfl, SqT.of (s10 _ _ (s69 _ _ hr6)), rfl, Nat.zero_le _, fun O2 nO2 => ⟨by show 2 ≤ sizeLine; decide, fun O3 nO3 => ?_⟩⟩
          have s12 := same_new (o := .tup [.ref b, .ref O2]) nO3
          have s11 := (same_new (o := .tup []) nO2).trans s12
          refine ⟨_, _, rfl, two_lk (xs := cur) (ys := []) (s11 _ _ hr3) upd_same (s11 _ _ hb3) (s11 _ _ (s10 _ _ (s69 _ _ hb6))) (s11 _ _ ht3) (s12 _ _ upd_same) (by rw [bc.2]; omega) (Nat.zero_le _), fun H13 s13 => ⟨true, rfl, ?_⟩⟩
          exact ⟨_, _, _, _, _, _, _, _, rfl, ((s59.trans s10).trans (s11.trans s13)).seq hS5⟩
        · rw [Int.toNat_natCast] at mv3
          have hps3 : ps3.length ≤ 0 := (Mvs.nil (s0 := cur)).calm_le mv3 hend2.2
          omega
      · rw [Int.toNat_natCast] at mv2 nx2
        have h17 : ps.length = 17 := by
          rcases hend with h | h
          · have := mv.calm_le mv2 h.2
            have e := (mv.end_uniq mv2 (by omega)).2
            subst e
            exact (nx2.no h.2).elim
          · exact h
        refine ⟨R, _, rfl, SqT.of hR, rfl, _, _, rfl, _, _, rfl, rfl, ?_⟩
        refine ⟨.ref r, rfl, r, _, 1, .ref t, rfl, rfl, SqT.of (s7 _ _ hr6), rfl, t, _, rfl, .inr (SqT.of (s7 _ _ ht6)), _, 16, rfl, rfl, _, rfl, ?_⟩
        rw [decide_eq_true (by rw [List.length_map]; omega)]
        refine ⟨.ref z, rfl, by show 7 ≤ sizeLine; decide, fun O nO => ?_⟩
        have sO := same_new (o := .lst ([true, false, false, false, false, false, true].map V.bl)) nO
        refine ⟨.list ([true, false, false, false, false, false, true].map PyData.bool), .list ([true, false, false, false, false, false, true].map PyData.bool), .lst (SqL.of (sO _ _ hz)) (dp_bls [true, false, false, false, false, false, true]), .lst (SqL.of upd_same) (dp_bls [true, false, false, false, false, false, true]), by decide, by decide, _, rfl, ?_⟩
        exact ⟨_, _, _, _, _, _, _, _, rfl, ((s6.trans s7).trans sO).seq hS5⟩
    · rintro σ' H2 ⟨y1, y2, y3, y4, y5, y6, y7, y8, rfl, _⟩
      exact q _
end
/-! ### the end of a law whose defs hold generator expressions: their tables are empty behind the top -/
theorem walk_tabs {l : PySem.W.OpenLaw} {n k : Nat} {q : Program} {loose : List Str} {XP : (Str → Option Value) → Heap → Prop} {YP : World → Heap → Prop} {d : DefRec} {K : Params → PySem.W.Frag} {x : Str}
    (hn : l.most = some n) (hn2 : n ≤ sizeLine) (hdf : d.params.defaults = []) (hr : Room k callerA) (hY : ∀ (w : World) (h : Heap), YP w h → (K w.params).In h)
    (F : ∀ (w : World) (mg : Str → Option Value) (fa : Addr) (h : Heap), (K w.params).In h → h.Ns mainGlobals mg → mg d.name = some (.ref fa) →
      (∀ (y : Str) (fy : Addr), ((recsOf q).any fun e => e.name == y) = true → mg y = some (.ref fy) → LamX.OwnTab (K w.params) fy h) → LamX.LawAtS l w (K w.params) CX0 k n x mg fa h) :
    PySem.W.WalkO q loose XP YP l.row.toRowW d [] (fun f vs => PySem.call f vs) := by
  refine Att.attach_callB hn hdf fun w s₀ s₁ mg mb fa o pm cd doc a vs ns G Y ho hd hcd hmg hobj hints hlen hbits hg => ?_
  have KX := hY w _ Y
  have tabs : ∀ (y : Str) (fy : Addr), ((recsOf q).any fun e => e.name == y) = true → mg y = some (.ref fy) → LamX.OwnTab (K w.params) fy s₁.heap := fun y fy hy hm c P o1 fd1 e dd vs1 sl k1 k2 k3 k4 k5 => by
    obtain ⟨dL, hmem, hnm⟩ := List.any_eq_true.mp hy
    have hnm : dL.name = y := beq_iff_eq.mp hnm
    obtain ⟨a', o', fd', c', P', h1, h2, h3, h4, h5, h6⟩ := G.T.tab dL hmem
    rw [hnm, hm] at h1
    cases h1
    rw [KX _ _ k1] at h2
    cases h2
    rw [k2] at h3
    cases h3
    rw [k3] at h4
    cases h4
    obtain ⟨⟨oc, vc, e1, _, e3, e4⟩, hP⟩ := h6
    rw [KX _ _ k4] at e1
    cases e1
    cases e3
    rw [k5] at e4
    cases e4
    exact hP
  obtain ⟨fd, cs, sp, hT, nT, C, hb, hsp, hF⟩ := F w mg fa _ KX G.T.g hmg tabs
  exact LamX.law_callTs KX G.T.g G.T.b G.T.builtins G.T.nolimit hg hT nT C G.T.bmain hobj hints (Nat.le_trans hlen hn2) hr hF hb (fun H hH hS => hsp H a ns hlen hbits hH hS) fun H e s' z => z
/-- where a def stands, and where its code object does -/
structure At (K : PySem.W.Frag) (x : Str) (st : Stmt) (f : Addr) : Prop where
  ns : PySem.W.nsIn K mainGlobals x = some (some (.ref f))
  ex : ∃ (oc : Value) (od : Option Addr) (kV doc pm : Value) (an : Option Addr) (cdv ct : Value) (osl : Array (Option Value)),
    K.lookup f = some ⟨oc, od, .func (PySem.W.fnOf x x (defArgs st) (defBody st) (defScope st) .none kV doc pm an cdv ct), osl⟩ ∧ PySem.W.codeIn K cdv x = true
  kp : PySem.W.keepIn K (.ref f) = true
theorem at_mk {K : PySem.W.Frag} {x : Str} {st : Stmt} {f : Addr} {oc : Value} {od an : Option Addr} {osl : Array (Option Value)} {kV doc pm cdv ct : Value} (a : PySem.W.nsIn K mainGlobals x = some (some (.ref f)))
    (l : K.lookup f = some ⟨oc, od, .func (PySem.W.fnOf x x (defArgs st) (defBody st) (defScope st) .none kV doc pm an cdv ct), osl⟩) (c : PySem.W.codeIn K cdv x = true) (k : PySem.W.keepIn K (.ref f) = true) : At K x st f := ⟨a, ⟨oc, od, kV, doc, pm, an, cdv, ct, osl, l, c⟩, k⟩
theorem At.fn {K : PySem.W.Frag} {x : Str} {st : Stmt} {f : Addr} (h : At K x st f) : ∃ fd, Fun K x x st f fd := by
  obtain ⟨oc, od, kV, doc, pm, an, cdv, ct, osl, l, c⟩ := h.ex
  exact ⟨_, fun_mk l c h.kp⟩
section
variable {P : Program} {w : World} {K : PySem.W.Frag} {mg : Str → Option Value} {base : Heap}
theorem Df.of {x : Str} {st : Stmt} {f : Addr} {fd : FuncData} {k : Nat} {ps : List Str} {sp : Sp} (g : mg x = some (.ref f)) (F : Fun K x x st f fd) (G : FnOk P w K mg base CX0 k f fd ps sp)
    (h : ∀ (kV doc pm : Value) (an : Option Addr) (cdv ct : Value) (us : List Value), us.length = ps.length → bindArgs (PySem.W.fnOf x x (defArgs st) (defBody st) (defScope st) .none kV doc pm an cdv ct) ⟨us, []⟩ = pure (ps.zip us)) : Df P w K mg base k x ps sp :=
  ⟨f, fd, G, g, F.kp, F.binds h⟩
end
/-! ### what the top has written -/
section
variable {P : Program} {w : World} {K : PySem.W.Frag} {mg : Str → Option Value} {base : Heap}
theorem law_at {l : PySem.W.OpenLaw} {w : World} {K : PySem.W.Frag} {h : Heap} {mg : Str → Option Value} {fa f0 f1 f2 f3 f4 f5 f6 f7 f8 f9 f10 f11 f12 f13 f14 f15 f16  eW e_TooMany e_NoFrame e_NoRow e_NoText e_NoTie e_NotFlat : Addr} {nt0 : Tok} (X : K.In h) (G : h.Ns mainGlobals mg) (hfa : mg "law" = some (.ref fa))
    
    (a0 : At K "breaks" s_breaks f0)
    (a1 : At K "weight_of" s_weight_of f1)
    (a2 : At K "leans" s_leans f2)
    (a3 : At K "moved_over" s_moved_over f3)
    (a4 : At K "settled" s_settled f4)
    (a5 : At K "_law_well" s_l_well f5)
    (a6 : At K "_law_draw" s_l_draw f6)
    (a7 : At K "_law_web" s_l_web f7)
    (a8 : At K "_law_weights" s_l_weights f8)
    (a9 : At K "_law_weight" s_l_weight f9)
    (a10 : At K "_law_sides" s_l_sides f10)
    (a11 : At K "_law_same" s_l_same f11)
    (a12 : At K "_law_broken" s_l_broken f12)
    (a13 : At K "_law_lean" s_l_lean f13)
    (a14 : At K "_law_due" s_l_due f14)
    (a15 : At K "_law_told" s_l_told f15)
    (a16 : At K "law" s_law f16)
    (z0 : PySem.W.nsIn K mainGlobals "len" = some none)
    (z1 : PySem.W.nsIn K mainGlobals "int" = some none)
    (z2 : PySem.W.nsIn K mainGlobals "bool" = some none)
    (z3 : PySem.W.nsIn K mainGlobals "str" = some none)
    (z4 : PySem.W.nsIn K mainGlobals "list" = some none)
    (z5 : PySem.W.nsIn K mainGlobals "tuple" = some none)
    (z6 : PySem.W.nsIn K mainGlobals "range" = some none)
    (z7 : PySem.W.nsIn K mainGlobals "isinstance" = some none)
    (z8 : PySem.W.nsIn K mainGlobals "sum" = some none)
    (z9 : PySem.W.nsIn K mainGlobals "enumerate" = some none)
    (z10 : PySem.W.nsIn K mainGlobals "all" = some none)
    (z11 : PySem.W.nsIn K mainGlobals "zip" = some none)
    (z12 : PySem.W.nsIn K mainGlobals "max" = some none)
    (z13 : PySem.W.nsIn K mainGlobals "ValueError" = some none)
    (e0 : ErrK K "TooMany" e_TooMany eW)
    (k0_0 : KitK K e_TooMany "TooMany" e_TooMany true)
    (k0_1 : KitK K e_TooMany "NoFrame" e_NoFrame false)
    (k0_2 : KitK K e_TooMany "NoRow" e_NoRow false)
    (k0_3 : KitK K e_TooMany "NoText" e_NoText false)
    (k0_4 : KitK K e_TooMany "NoTie" e_NoTie false)
    (k0_5 : KitK K e_TooMany "NotFlat" e_NotFlat false)
    (v0 : PySem.W.kitOne K (.ref e_TooMany) (.type "ValueError") = some true)
    (n0 : PySem.W.nsIn K mainGlobals "MOST_MOVES" = some (some (.int 16 nt0))) :
    LamX.LawAtS l w K CX0 5 63 "_law_script" mg fa h := by
  have efa := hfa.symm.trans (PySem.W.mg_of X G a16.ns)
  cases efa
  have M : Free mg := ⟨PySem.W.mg_none_of X G z0, PySem.W.mg_none_of X G z1, PySem.W.mg_none_of X G z2, PySem.W.mg_none_of X G z3, PySem.W.mg_none_of X G z4, PySem.W.mg_none_of X G z5, PySem.W.mg_none_of X G z6, PySem.W.mg_none_of X G z7, PySem.W.mg_none_of X G z8⟩
  have m_enumerate := PySem.W.mg_none_of X G z9
  have m_all := PySem.W.mg_none_of X G z10
  have m_zip := PySem.W.mg_none_of X G z11
  have m_max := PySem.W.mg_none_of X G z12
  have m_ValueError := PySem.W.mg_none_of X G z13
  obtain ⟨d0, F0⟩ := a0.fn
  obtain ⟨d1, F1⟩ := a1.fn
  obtain ⟨d2, F2⟩ := a2.fn
  obtain ⟨d3, F3⟩ := a3.fn
  obtain ⟨d4, F4⟩ := a4.fn
  obtain ⟨d5, F5⟩ := a5.fn
  obtain ⟨d6, F6⟩ := a6.fn
  obtain ⟨d7, F7⟩ := a7.fn
  obtain ⟨d8, F8⟩ := a8.fn
  obtain ⟨d9, F9⟩ := a9.fn
  obtain ⟨d10, F10⟩ := a10.fn
  obtain ⟨d11, F11⟩ := a11.fn
  obtain ⟨d12, F12⟩ := a12.fn
  obtain ⟨d13, F13⟩ := a13.fn
  obtain ⟨d14, F14⟩ := a14.fn
  obtain ⟨d15, F15⟩ := a15.fn
  obtain ⟨d16, F16⟩ := a16.fn
  have g0 := PySem.W.mg_of X G a0.ns
  have g1 := PySem.W.mg_of X G a1.ns
  have g2 := PySem.W.mg_of X G a2.ns
  have g3 := PySem.W.mg_of X G a3.ns
  have g4 := PySem.W.mg_of X G a4.ns
  have g5 := PySem.W.mg_of X G a5.ns
  have g6 := PySem.W.mg_of X G a6.ns
  have g7 := PySem.W.mg_of X G a7.ns
  have g8 := PySem.W.mg_of X G a8.ns
  have g9 := PySem.W.mg_of X G a9.ns
  have g10 := PySem.W.mg_of X G a10.ns
  have g11 := PySem.W.mg_of X G a11.ns
  have g12 := PySem.W.mg_of X G a12.ns
  have g13 := PySem.W.mg_of X G a13.ns
  have g14 := PySem.W.mg_of X G a14.ns
  have g15 := PySem.W.mg_of X G a15.ns
  have hb0 : ∀ (s : Shared) (u : Value), BindsTo s d16 ⟨[u], []⟩ [("_law_script", u)] := by
    obtain ⟨oc, od, kV, doc, pm, an, cdv, ct, osl, rfl, _⟩ := F16.ex
    exact fun s u => .of_eq rfl
  refine ⟨d16, [], spLaw K, (fun p hp => by simp at hp), (fun p hp => by simp at hp), (fun p hp => by simp at hp), hb0, fun H a ns hl _ hT hS => ⟨a, ns, rfl, hS, hl, fun _ => rfl⟩, fun base KB GB TB => ?_⟩
  have D0 : Df l.prog w K mg base 1 "breaks" ["sides", "tie"] spBreaks := .of g0 F0 (ok_breaks F0) fun _ _ _ _ _ _ us hl => match us, hl with | [_, _], _ => rfl
  have D1 : Df l.prog w K mg base 1 "weight_of" ["weights", "tie"] spWeightOf := .of g1 F1 (ok_weight_of F1) fun _ _ _ _ _ _ us hl => match us, hl with | [_, _], _ => rfl
  have D2 : Df l.prog w K mg base 2 "leans" ["web", "weights", "sides"] spLeans := .of g2 F2 (ok_leans F2 M m_enumerate D1 D0) fun _ _ _ _ _ _ us hl => match us, hl with | [_, _, _], _ => rfl
  have D3 : Df l.prog w K mg base 1 "moved_over" ["sides", "place"] spOver := .of g3 F3 (ok_moved_over F3) fun _ _ _ _ _ _ us hl => match us, hl with | [_, _], _ => rfl
  have D4 : DfX l.prog w K mg base 3 "settled" ["web", "weights", "sides"] (spSettled e_TooMany) := .of g4 F4 (ok_settled F4 M m_max (e0.ref X G) (PySem.W.mg_of X G n0) D2 D3) fun _ _ _ _ _ _ us hl => match us, hl with | [_, _, _], _ => rfl
  have D5 : Df l.prog w K mg base 1 "_law_well" ["_law_script", "_law_k"] (spWell K) := .of g5 F5 (ok_l_well F5 M) fun _ _ _ _ _ _ us hl => match us, hl with | [_, _], _ => rfl
  have D6 : Df l.prog w K mg base 1 "_law_draw" ["_law_well_here", "_law_most"] spDraw := .of g6 F6 (ok_l_draw F6) fun _ _ _ _ _ _ us hl => match us, hl with | [_, _], _ => rfl
  have D7 : Df l.prog w K mg base 2 "_law_web" ["_law_well_here"] spWeb := .of g7 F7 (ok_l_web F7 M D6) fun _ _ _ _ _ _ us hl => match us, hl with | [_], _ => rfl
  have D8 : Df l.prog w K mg base 2 "_law_weights" ["_law_well_here", "_law_web_here"] spWeightsL := .of g8 F8 (ok_l_weights F8 M D6) fun _ _ _ _ _ _ us hl => match us, hl with | [_, _], _ => rfl
  have D9 : Df l.prog w K mg base 1 "_law_weight" ["_law_weights_here", "_law_tie"] spWeightOf := .of g9 F9 (ok_l_weight F9) fun _ _ _ _ _ _ us hl => match us, hl with | [_, _], _ => rfl
  have D10 : Df l.prog w K mg base 2 "_law_sides" ["_law_well_here", "_law_many"] spSidesL := .of g10 F10 (ok_l_sides F10 M D6) fun _ _ _ _ _ _ us hl => match us, hl with | [_, _], _ => rfl
  have D11 : Df l.prog w K mg base 3 "_law_same" ["_law_found", "_law_due_here"] (spSame 3) := .of g11 F11 (ok_l_same F11 M m_all m_zip g11 (F11.binds fun _ _ _ _ _ _ us hl => match us, hl with | [_, _], _ => rfl) 3) fun _ _ _ _ _ _ us hl => match us, hl with | [_, _], _ => rfl
  have D12 : Df l.prog w K mg base 1 "_law_broken" ["_law_web_here", "_law_sides_here", "_law_tie"] spLBroken := .of g12 F12 (ok_l_broken F12) fun _ _ _ _ _ _ us hl => match us, hl with | [_, _, _], _ => rfl
  have D13 : Df l.prog w K mg base 2 "_law_lean" ["_law_web_here", "_law_weights_here", "_law_sides_here", "_law_place"] spLLean := .of g13 F13 (ok_l_lean F13 M D9 D12) fun _ _ _ _ _ _ us hl => match us, hl with | [_, _, _, _], _ => rfl
  have D14 : Df l.prog w K mg base 3 "_law_due" ["_law_web_here", "_law_weights_here", "_law_sides_here"] spDue := .of g14 F14 (ok_l_due F14 M m_max D13) fun _ _ _ _ _ _ us hl => match us, hl with | [_, _, _], _ => rfl
  have D15 : Df l.prog w K mg base 4 "_law_told" ["_law_web_here", "_law_weights_here", "_law_sides_here"] spTold := .of g15 F15 (ok_l_told F15 M m_ValueError (e0.ref X G) (k0_0.kit X G) (k0_1.kit X G) (k0_2.kit X G) (k0_3.kit X G) (k0_4.kit X G) (k0_5.kit X G) v0 D4) fun _ _ _ _ _ _ us hl => match us, hl with | [_, _, _], _ => rfl
  exact ok_law F16 M D5 D7 D8 D10 D14 D15 D11
end
end FF
open PySem PySem.W PyProof.Rows
set_option maxRecDepth 100000 in
set_option maxHeartbeats 0 in
theorem PySem.Challenge.cw_friendfoe_k72_moves_one_by_one_holds : PySem.Challenge.rw_friendfoe_k72_moves_one_by_one.Holds := by
  w_on; o_law; k_head; (case hw => w_witness2)
  k_fill
  refine FF.walk_tabs (l := PySem.Challenge.rw_friendfoe_k72_moves_one_by_one) (n := 63) (k := 5) (x := "_law_script") rfl (by decide) rfl ⟨rfl, by decide, by decide⟩ (fun w h Y => PySem.W.kIn_of Y) ?F
  case F =>
    intro w mg fa h KX G hmg tabs
    refine' FF.law_at KX G hmg  ?a0 ?a1 ?a2 ?a3 ?a4 ?a5 ?a6 ?a7 ?a8 ?a9 ?a10 ?a11 ?a12 ?a13 ?a14 ?a15 ?a16 ?z0 ?z1 ?z2 ?z3 ?z4 ?z5 ?z6 ?z7 ?z8 ?z9 ?z10 ?z11 ?z12 ?z13 ?e0 ?k0_0 ?k0_1 ?k0_2 ?k0_3 ?k0_4 ?k0_5 ?v0 ?n0
    (case a0 => refine' FF.at_mk ?p1 ?p2 ?p3 ?p4; (case p1 => k_is); (case p2 => k_is); (case p3 => k_is); (case p4 => k_is))
    (case a1 => refine' FF.at_mk ?p1 ?p2 ?p3 ?p4; (case p1 => k_is); (case p2 => k_is); (case p3 => k_is); (case p4 => k_is))
    (case a2 => refine' FF.at_mk ?p1 ?p2 ?p3 ?p4; (case p1 => k_is); (case p2 => k_is); (case p3 => k_is); (case p4 => k_is))
    (case a3 => refine' FF.at_mk ?p1 ?p2 ?p3 ?p4; (case p1 => k_is); (case p2 => k_is); (case p3 => k_is); (case p4 => k_is))
    (case a4 => refine' FF.at_mk ?p1 ?p2 ?p3 ?p4; (case p1 => k_is); (case p2 => k_is); (case p3 => k_is); (case p4 => k_is))
    (case a5 => refine' FF.at_mk ?p1 ?p2 ?p3 ?p4; (case p1 => k_is); (case p2 => k_is); (case p3 => k_is); (case p4 => k_is))
    (case a6 => refine' FF.at_mk ?p1 ?p2 ?p3 ?p4; (case p1 => k_is); (case p2 => k_is); (case p3 => k_is); (case p4 => k_is))
    (case a7 => refine' FF.at_mk ?p1 ?p2 ?p3 ?p4; (case p1 => k_is); (case p2 => k_is); (case p3 => k_is); (case p4 => k_is))
    (case a8 => refine' FF.at_mk ?p1 ?p2 ?p3 ?p4; (case p1 => k_is); (case p2 => k_is); (case p3 => k_is); (case p4 => k_is))
    (case a9 => refine' FF.at_mk ?p1 ?p2 ?p3 ?p4; (case p1 => k_is); (case p2 => k_is); (case p3 => k_is); (case p4 => k_is))
    (case a10 => refine' FF.at_mk ?p1 ?p2 ?p3 ?p4; (case p1 => k_is); (case p2 => k_is); (case p3 => k_is); (case p4 => k_is))
    (case a11 => refine' FF.at_mk ?p1 ?p2 ?p3 ?p4; (case p1 => k_is); (case p2 => k_is); (case p3 => k_is); (case p4 => k_is))
    (case a12 => refine' FF.at_mk ?p1 ?p2 ?p3 ?p4; (case p1 => k_is); (case p2 => k_is); (case p3 => k_is); (case p4 => k_is))
    (case a13 => refine' FF.at_mk ?p1 ?p2 ?p3 ?p4; (case p1 => k_is); (case p2 => k_is); (case p3 => k_is); (case p4 => k_is))
    (case a14 => refine' FF.at_mk ?p1 ?p2 ?p3 ?p4; (case p1 => k_is); (case p2 => k_is); (case p3 => k_is); (case p4 => k_is))
    (case a15 => refine' FF.at_mk ?p1 ?p2 ?p3 ?p4; (case p1 => k_is); (case p2 => k_is); (case p3 => k_is); (case p4 => k_is))
    (case a16 => refine' FF.at_mk ?p1 ?p2 ?p3 ?p4; (case p1 => k_is); (case p2 => k_is); (case p3 => k_is); (case p4 => k_is))
    (case z0 => k_is)
    (case z1 => k_is)
    (case z2 => k_is)
    (case z3 => k_is)
    (case z4 => k_is)
    (case z5 => k_is)
    (case z6 => k_is)
    (case z7 => k_is)
    (case z8 => k_is)
    (case z9 => k_is)
    (case z10 => k_is)
    (case z11 => k_is)
    (case z12 => k_is)
    (case z13 => k_is)
    (case e0 => refine' FF.errK_mk ?q1 ?q2 ?q3 ?q4 ?q5 ?q6 ?q7 ?q8 ?q9 ?q10 ?q11 ?q12 ?q13 ?q14 ?q15 ?q16 ?q17; (case q1 => first | k_is | rfl | kernel_rfl); (case q2 => first | k_is | rfl | kernel_rfl); (case q3 => first | k_is | rfl | kernel_rfl); (case q4 => first | k_is | rfl | kernel_rfl); (case q5 => first | k_is | rfl | kernel_rfl); (case q6 => first | k_is | rfl | kernel_rfl); (case q7 => first | k_is | rfl | kernel_rfl); (case q8 => first | k_is | rfl | kernel_rfl); (case q9 => first | k_is | rfl | kernel_rfl); (case q10 => first | k_is | rfl | kernel_rfl); (case q11 => first | k_is | rfl | kernel_rfl); (case q12 => first | k_is | rfl | kernel_rfl); (case q13 => first | k_is | rfl | kernel_rfl); (case q14 => first | k_is | rfl | kernel_rfl); (case q15 => first | k_is | rfl | kernel_rfl); (case q16 => first | k_is | rfl | kernel_rfl); (case q17 => first | k_is | rfl | kernel_rfl))
    (case k0_0 => refine' FF.kitK_mk ?q1 ?q2; (case q1 => k_is); (case q2 => first | k_is | rfl | kernel_rfl))
    (case k0_1 => refine' FF.kitK_mk ?q1 ?q2; (case q1 => k_is); (case q2 => first | k_is | rfl | kernel_rfl))
    (case k0_2 => refine' FF.kitK_mk ?q1 ?q2; (case q1 => k_is); (case q2 => first | k_is | rfl | kernel_rfl))
    (case k0_3 => refine' FF.kitK_mk ?q1 ?q2; (case q1 => k_is); (case q2 => first | k_is | rfl | kernel_rfl))
    (case k0_4 => refine' FF.kitK_mk ?q1 ?q2; (case q1 => k_is); (case q2 => first | k_is | rfl | kernel_rfl))
    (case k0_5 => refine' FF.kitK_mk ?q1 ?q2; (case q1 => k_is); (case q2 => first | k_is | rfl | kernel_rfl))
    (case v0 => first | k_is | rfl)
    (case n0 => first | k_is | rfl)
