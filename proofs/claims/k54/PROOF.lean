import PyProof.Rows.All
import Wide.All
import OpenK.AllK
import Wide.FinOn
import HandS.ForMost
import HandS.IsInst
import HandS.TupAny
import HandS.TupLe
import HandS.Wide
import HandS.Style
import HandS.SortInts
import HandS.Conv
import HandS.More
import HandS.EndTab
import HandS.EndOwn
import HandS.AnyAll
import HandS.GenOver
import HandS.Evl
import HandS.Walk
import HandS.NoneIn
import HandS.Zip
import HandS.DictComp
import HandS.SetFor
import KE.GoesEnum
import HandS.TupMul
import HandS.Strs
import KE.DataMinMax
import HandS.ForExc
import HandS.ExcIs
import HandS.SetKeys
import KE.DatumOrd
import HandS.Remove
import HandS.SortRule
import KE.KDictCopyH
import KE.KDictSum
import PySem.Challenge.RW_friendfoe_k54_odd_faces_told
set_option Elab.async false
set_option linter.all false
set_option maxRecDepth 100000
namespace FF
open PySem PySem.Spec PyProof.Rows L2
/-! ### heaps: what is kept -/
/-- all that is tracked, but at d and c, is as it was -/
def Kp (d c : Addr) (H H' : Hp) : Prop := ∀ b o, b ≠ d → b ≠ c → H b = some o → H' b = some o
theorem Kp.refl {d c : Addr} {H : Hp} : Kp d c H H := fun _ _ _ _ h => h
theorem Kp.trans {d c : Addr} {H H1 H2 : Hp} (a : Kp d c H H1) (b : Kp d c H1 H2) : Kp d c H H2 := fun x o h1 h2 h => b x o h1 h2 (a x o h1 h2 h)
theorem Kp.at_d {d c : Addr} {H : Hp} {o : HO} : Kp d c H (upd H d o) := fun b u h1 _ h => by rw [upd_ne h1]; exact h
theorem Kp.at_c {d c : Addr} {H : Hp} {o : HO} : Kp d c H (upd H c o) := fun b u _ h2 h => by rw [upd_ne h2]; exact h
theorem Kp.new {d c p : Addr} {H : Hp} {o : HO} (hp : H p = none) : Kp d c H (upd H p o) := fun b u _ _ h => by rw [upd_ne (ne_of_none h hp)]; exact h
theorem same_new {H : Hp} {p : Addr} {o : HO} (h : H p = none) : Same H (upd H p o) := fun b x e => by
  rw [upd_ne (ne_of_none e h)]
  exact e
theorem Same.kp {d c : Addr} {H H' : Hp} (s : Same H H') : Kp d c H H' := fun b o _ _ h => s b o h
/-! ### defs as they are called -/
def Df (P : Program) (w : World) (K : PySem.W.Frag) (mg : Str → Option Value) (base : Heap) (k : Nat) (x : Str) (ps : List Str) (sp : Sp) : Prop :=
  ∃ (f : Addr) (fd : FuncData), FnOk P w K mg base CX0 k f fd ps sp ∧ mg x = some (.ref f) ∧ PySem.W.keepIn K (.ref f) = true ∧ Binds K fd ps []
/-- built-in names that the module has not taken -/
structure Free (mg : Str → Option Value) : Prop where
  len : mg "len" = none
  int : mg "int" = none
  bool : mg "bool" = none
  str : mg "str" = none
  list : mg "list" = none
  tuple : mg "tuple" = none
  range : mg "range" = none
  isinstance : mg "isinstance" = none
  sum : mg "sum" = none
theorem mod_rng {a m : Int} (h : 0 < m) : 0 ≤ a % m ∧ a % m < m := ⟨Int.emod_nonneg a (by omega), Int.emod_lt_of_pos a h⟩
def topS (i : Nat) : Stmt := PySem.Challenge.pw_friendfoe_k54_odd_faces_told.main.body.getD i (.Pass ⟨0, 0, 0, 0⟩)
abbrev s_steps_behind : Stmt := topS 1
abbrev N_steps_behind : List Str := ["web", "orders", "behind", "place", "row", "tie", "following", "one", "other", "kind"]
theorem sc_steps_behind : FnScope N_steps_behind ["web", "orders"] (defScope s_steps_behind) := ⟨rfl, rfl, rfl, by decide +kernel, rfl, by decide +kernel, by decide +kernel⟩
abbrev s_face_from : Stmt := topS 2
abbrev N_face_from : List Str := ["first", "behind", "face"]
theorem sc_face_from : FnScope N_face_from ["first", "behind"] (defScope s_face_from) := ⟨rfl, rfl, rfl, by decide +kernel, rfl, by decide +kernel, by decide +kernel⟩
abbrev s_faces_of : Stmt := topS 3
abbrev N_faces_of : List Str := ["web", "orders", "behind", "faces", "placed", "step", "face", "other"]
theorem sc_faces_of : FnScope N_faces_of ["web", "orders"] (defScope s_faces_of) := ⟨rfl, rfl, rfl, by decide +kernel, rfl, by decide +kernel, by decide +kernel⟩
abbrev s_odd_among : Stmt := topS 4
abbrev N_odd_among : List Str := ["web", "faces", "foes", "tie", "place", "face", "number", "many"]
theorem sc_odd_among : FnScope N_odd_among ["web", "faces"] (defScope s_odd_among) := ⟨rfl, rfl, rfl, by decide +kernel, rfl, by decide +kernel, by decide +kernel⟩
abbrev s_odd_faces : Stmt := topS 5
abbrev N_odd_faces : List Str := ["web", "orders"]
theorem sc_odd_faces : FnScope N_odd_faces ["web", "orders"] (defScope s_odd_faces) := ⟨rfl, rfl, rfl, by decide +kernel, rfl, by decide +kernel, by decide +kernel⟩
abbrev s_l_mixed : Stmt := topS 7
abbrev N_l_mixed : List Str := ["_law_number"]
theorem sc_l_mixed : FnScope N_l_mixed ["_law_number"] (defScope s_l_mixed) := ⟨rfl, rfl, rfl, by decide +kernel, rfl, by decide +kernel, by decide +kernel⟩
abbrev s_l_deck : Stmt := topS 8
abbrev N_l_deck : List Str := ["_law_script", "_law_deck_here", "_law_last", "_law_k"]
theorem sc_l_deck : FnScope N_l_deck ["_law_script"] (defScope s_l_deck) := ⟨rfl, rfl, rfl, by decide +kernel, rfl, by decide +kernel, by decide +kernel⟩
abbrev s_l_take : Stmt := topS 9
abbrev N_l_take : List Str := ["_law_deck_here", "_law_most", "_law_cell"]
theorem sc_l_take : FnScope N_l_take ["_law_deck_here", "_law_most"] (defScope s_l_take) := ⟨rfl, rfl, rfl, by decide +kernel, rfl, by decide +kernel, by decide +kernel⟩
abbrev s_l_corners : Stmt := topS 10
abbrev N_l_corners : List Str := ["_law_ties", "_law_orders", "_law_place", "_law_at", "_law_found", "_law_here", "_law_k", "_law_tie", "_law_there"]
theorem sc_l_corners : FnScope N_l_corners ["_law_ties", "_law_orders", "_law_place", "_law_at"] (defScope s_l_corners) := ⟨rfl, rfl, rfl, by decide +kernel, rfl, by decide +kernel, by decide +kernel⟩
abbrev s_l_grown : Stmt := topS 11
abbrev N_l_grown : List Str := ["_law_deck_here", "_law_most", "_law_many_ties", "_law_orders", "_law_ties", "_law_k", "_law_way", "_law_place", "_law_at", "_law_others", "_law_corner", "_law_other", "_law_there"]
theorem sc_l_grown : FnScope N_l_grown ["_law_deck_here", "_law_most", "_law_many_ties"] (defScope s_l_grown) := ⟨rfl, rfl, rfl, by decide +kernel, rfl, by decide +kernel, by decide +kernel⟩
abbrev s_l_turned : Stmt := topS 12
abbrev N_l_turned : List Str := ["_law_deck_here", "_law_orders", "_law_found", "_law_order", "_law_at"]
theorem sc_l_turned : FnScope N_l_turned ["_law_deck_here", "_law_orders"] (defScope s_l_turned) := ⟨rfl, rfl, rfl, by decide +kernel, rfl, by decide +kernel, by decide +kernel⟩
abbrev s_l_web : Stmt := topS 13
abbrev N_l_web : List Str := ["_law_deck_here", "_law_ties", "_law_places", "_law_found", "_law_one", "_law_other", "_law_kind"]
theorem sc_l_web : FnScope N_l_web ["_law_deck_here", "_law_ties", "_law_places"] (defScope s_l_web) := ⟨rfl, rfl, rfl, by decide +kernel, rfl, by decide +kernel, by decide +kernel⟩
abbrev s_l_crossed : Stmt := topS 14
abbrev N_l_crossed : List Str := ["_law_deck_here", "_law_orders", "_law_wide", "_law_place", "_law_at", "_law_to", "_law_order"]
theorem sc_l_crossed : FnScope N_l_crossed ["_law_deck_here", "_law_orders"] (defScope s_l_crossed) := ⟨rfl, rfl, rfl, by decide +kernel, rfl, by decide +kernel, by decide +kernel⟩
abbrev s_l_behind : Stmt := topS 15
abbrev N_l_behind : List Str := ["_law_web_here", "_law_orders", "_law_step", "_law_one", "_law_other", "_law_kind", "_law_place", "_law_order", "_law_k"]
theorem sc_l_behind : FnScope N_l_behind ["_law_web_here", "_law_orders", "_law_step"] (defScope s_l_behind) := ⟨rfl, rfl, rfl, by decide +kernel, rfl, by decide +kernel, by decide +kernel⟩
abbrev s_l_due : Stmt := topS 16
abbrev N_l_due : List Str := ["_law_web_here", "_law_orders", "_law_steps", "_law_number", "_law_tie", "_law_known", "_law_faces", "_law_step", "_law_face", "_law_here", "_law_k"]
theorem sc_l_due : FnScope N_l_due ["_law_web_here", "_law_orders"] (defScope s_l_due) := ⟨rfl, rfl, rfl, by decide +kernel, rfl, by decide +kernel, by decide +kernel⟩
abbrev s_l_kinds : Stmt := topS 17
abbrev N_l_kinds : List Str := ["_law_deck_here", "_law_web_here", "_law_way", "_law_found", "_law_one", "_law_other", "_law_kind", "_law_foe"]
theorem sc_l_kinds : FnScope N_l_kinds ["_law_deck_here", "_law_web_here"] (defScope s_l_kinds) := ⟨rfl, rfl, rfl, by decide +kernel, rfl, by decide +kernel, by decide +kernel⟩
abbrev s_l_turned_at : Stmt := topS 18
abbrev N_l_turned_at : List Str := ["_law_web_here", "_law_place", "_law_found", "_law_one", "_law_other", "_law_kind"]
theorem sc_l_turned_at : FnScope N_l_turned_at ["_law_web_here", "_law_place"] (defScope s_l_turned_at) := ⟨rfl, rfl, rfl, by decide +kernel, rfl, by decide +kernel, by decide +kernel⟩
abbrev s_l_odd : Stmt := topS 19
abbrev N_l_odd : List Str := ["_law_web_here", "_law_orders", "_law_found", "_law_number", "_law_face", "_law_foes", "_law_tie", "_law_place"]
theorem sc_l_odd : FnScope N_l_odd ["_law_web_here", "_law_orders"] (defScope s_l_odd) := ⟨rfl, rfl, rfl, by decide +kernel, rfl, by decide +kernel, by decide +kernel⟩
abbrev s_l_right : Stmt := topS 20
abbrev N_l_right : List Str := ["_law_web_here", "_law_orders", "_law_due_here", "_law_turn", "_law_found", "_law_one"]
theorem sc_l_right : FnScope N_l_right ["_law_web_here", "_law_orders", "_law_due_here"] (defScope s_l_right) := ⟨rfl, rfl, rfl, by decide +kernel, rfl, by decide +kernel, by decide +kernel⟩
abbrev s_law : Stmt := topS 21
abbrev N_law : List Str := ["_law_script", "_law_deck_here", "_law_turn", "_law_great", "_law_most", "_law_ties", "_law_orders", "_law_web_here", "_law_here", "_law_due_here"]
theorem sc_law : FnScope N_law ["_law_script"] (defScope s_law) := ⟨rfl, rfl, rfl, by decide +kernel, rfl, by decide +kernel, by decide +kernel⟩
/-! ### own rules: a list against [] -/
section
variable {X : Cx}
def rEqE (K : PySem.W.Frag) : R2 := fun x y H Q => ∃ (a b : Addr) (xs : List V), x = .ref a ∧ y = .ref b ∧ SqL K H a xs ∧ SqL K H b [] ∧ Q (.bl xs.isEmpty) H
def rNeE (K : PySem.W.Frag) : R2 := fun x y H Q => ∃ (a b : Addr) (xs : List V), x = .ref a ∧ y = .ref b ∧ SqL K H a xs ∧ SqL K H b [] ∧ Q (.bl (!xs.isEmpty)) H
theorem op_eqE (hu : X.A.units < cLine) : OpR X (compareOp .Eq) (rEqE X.K) := by
  intro pins s σ H x y v u Q I rx ry h
  obtain ⟨a, b, xs, rfl, rfl, ha, hb, q⟩ := h
  obtain rfl : v = Value.ref a := rx
  obtain rfl : u = Value.ref b := ry
  obtain ⟨its, r1, p1, _⟩ := I.list ha
  obtain ⟨its2, r2, p2, _⟩ := I.list hb
  cases r2
  cases xs with
  | nil =>
    cases r1
    exact SeqAt.eq_listAt (e := fun _ => true) p1.isList p2.isList rfl hu (fun j h1 _ => absurd h1 (by simp)) ⟨.bl true, H, I, rfl, q⟩
  | cons z zs =>
    cases r1 with
    | cons r t => exact SeqAt.eq_list_lengthsAt p1.isList p2.isList (by simp) hu ⟨.bl false, H, I, rfl, q⟩
theorem op_neE (hu : X.A.units < cLine) : OpR X (compareOp .NotEq) (rNeE X.K) := by
  intro pins s σ H x y v u Q I rx ry h
  obtain ⟨a, b, xs, rfl, rfl, ha, hb, q⟩ := h
  obtain rfl : v = Value.ref a := rx
  obtain rfl : u = Value.ref b := ry
  obtain ⟨its, r1, p1, _⟩ := I.list ha
  obtain ⟨its2, r2, p2, _⟩ := I.list hb
  cases r2
  cases xs with
  | nil =>
    cases r1
    exact SeqAt.RcNeAt.lists (e := fun _ => true) p1.isList p2.isList rfl hu (fun j h1 _ => absurd h1 (by simp)) _ _ _ _ ⟨.bl false, H, I, rfl, q⟩
  | cons z zs =>
    cases r1 with
    | cons r t => exact SeqAt.RcNeAt.lists_lengths p1.isList p2.isList (by simp) hu _ _ _ _ ⟨.bl true, H, I, rfl, q⟩
end
section
variable {P : Program} {w : World} {K : PySem.W.Frag} {mg : Str → Option Value} {base : Heap}
/-! ### webs -/
structure Tie where
  one : Int
  other : Int
  foe : Bool
def kindS : Bool → Str
  | true => "foe"
  | false => "friend"
def TieV (H : Hp) (v : V) (t : Tie) : Prop := ∃ a, v = .ref a ∧ H a = some (.tup [.int t.one, .int t.other, .str (kindS t.foe)])
def TieOk (n : Int) (t : Tie) : Prop := 0 ≤ t.one ∧ t.one < n ∧ 0 ≤ t.other ∧ t.other < n ∧ t.one ≠ t.other
def WebAt (H : Hp) (v : V) (n : Int) (ts : List Tie) : Prop := ∃ a b vs, v = .ref a ∧ H a = some (.tup [.int n, .ref b]) ∧ H b = some (.tup vs) ∧ Paired (TieV H) vs ts
structure WebOk (n : Int) (ts : List Tie) : Prop where
  lo : 1 ≤ n
  hi : n ≤ 40
  few : ts.length ≤ 120
  ok : ∀ t ∈ ts, TieOk n t
/-- tuples stay -/
def Tk (H H' : Hp) : Prop := ∀ b xs, H b = some (.tup xs) → H' b = some (.tup xs)
theorem Tk.trans {H H1 H2 : Hp} (a : Tk H H1) (b : Tk H1 H2) : Tk H H2 := fun x xs h => b x xs (a x xs h)
theorem Same.tk {H H' : Hp} (s : Same H H') : Tk H H' := fun b xs h => s b _ h
theorem tk_lst {H : Hp} {l : Addr} {xs ys : List V} (h : H l = some (.lst xs)) : Tk H (upd H l (.lst ys)) := fun b zs e => by
  rw [upd_ne (ne_of e h (by intro z; cases z))]
  exact e
theorem TieV.tk {H H' : Hp} (k : Tk H H') {v : V} {t : Tie} (h : TieV H v t) : TieV H' v t := by
  obtain ⟨a, rfl, e⟩ := h
  exact ⟨a, rfl, k _ _ e⟩
theorem ties_tk {H H' : Hp} (k : Tk H H') {vs : List V} {ts : List Tie} (h : Paired (TieV H) vs ts) : Paired (TieV H') vs ts := Paired.mono (fun _ _ x => x.tk k) h
theorem WebAt.tk {H H' : Hp} (k : Tk H H') {v : V} {n : Int} {ts : List Tie} (h : WebAt H v n ts) : WebAt H' v n ts := by
  obtain ⟨a, b, vs, rfl, h1, h2, h3⟩ := h
  exact ⟨a, b, vs, rfl, k _ _ h1, k _ _ h2, ties_tk k h3⟩
theorem Kp.mut {d c l : Addr} {H H' : Hp} {o : HO} (k : Kp d c H H') (h : H l = none) : Kp d c H (upd H' l o) := fun b u h1 h2 e => by
  rw [upd_ne (ne_of_none e h)]
  exact k b u h1 h2 e
theorem Paired.at {α β : Type} {F : α → β → Prop} : ∀ {l : List α} {m : List β} {i : Nat} {a : α}, Paired F l m → l[i]? = some a → ∃ b, m[i]? = some b ∧ F a b
  | _, _, _, _, .nil, e => by simp at e
  | _, _, 0, _, .cons r _, e => by simp at e; subst e; exact ⟨_, rfl, r⟩
  | _, _, i + 1, a, .cons _ t, e => by
    obtain ⟨u, h1, h2⟩ := Paired.at (i := i) (a := a) t (by simpa using e)
    exact ⟨u, by simpa using h1, h2⟩
theorem Paired.at' {α β : Type} {F : α → β → Prop} : ∀ {l : List α} {m : List β} {i : Nat} {b : β}, Paired F l m → m[i]? = some b → ∃ a, l[i]? = some a ∧ F a b
  | _, _, _, _, .nil, e => by simp at e
  | _, _, 0, _, .cons r _, e => by simp at e; subst e; exact ⟨_, rfl, r⟩
  | _, _, i + 1, b, .cons _ t, e => by
    obtain ⟨u, h1, h2⟩ := Paired.at' (i := i) (b := b) t (by simpa using e)
    exact ⟨u, by simpa using h1, h2⟩
theorem getI {α : Type} {xs : List α} {i : Int} (h0 : 0 ≤ i) (h1 : i < (xs.length : Int)) : ∃ v, atI xs i = some v ∧ xs[i.toNat]? = some v := by
  obtain ⟨j, rfl⟩ : ∃ j : Nat, i = (j : Int) := ⟨i.toNat, by omega⟩
  have h2 : j < xs.length := by omega
  exact ⟨xs[j], atI_nat (List.getElem?_eq_getElem h2), by rw [Int.toNat_natCast]; exact List.getElem?_eq_getElem h2⟩
theorem other_ne {n a b : Int} (h0 : 0 ≤ a) (h1 : a < n) (g0 : 0 ≤ b) (g1 : b < n - 1) : a ≠ (a + 1 + b) % n := by
  by_cases h : a + 1 + b < n
  · rw [Int.emod_eq_of_lt (by omega) h]
    omega
  · have e : a + 1 + b = (a + 1 + b - n) + 1 * n := by omega
    rw [e, Int.add_mul_emod_self_right, Int.emod_eq_of_lt (by omega) (by omega)]
    omega
theorem pick2 {α : Type} (a b : α) (k : Bool) : atI [a, b] (if k then 1 else 0) = some (if k then b else a) := by
  cases k <;> rfl
theorem Kp.free {d c l : Addr} {H H' : Hp} (k : Kp d c H H') (h : H' l = none) (h1 : l ≠ d) (h2 : l ≠ c) : H l = none := by
  cases e : H l with
  | none => rfl
  | some o =>
    rw [k l o h1 h2 e] at h
    cases h
theorem atI_of {xs : List V} {i : Int} {v : V} (h0 : 0 ≤ i) (e : xs[i.toNat]? = some v) : atI xs i = some v := by
  obtain ⟨j, rfl⟩ : ∃ j : Nat, i = (j : Int) := ⟨i.toNat, by omega⟩
  exact atI_nat (by rw [Int.toNat_natCast] at e; exact e)
theorem atI_ints {xs : List Int} {i : Int} (h0 : 0 ≤ i) (h1 : i < xs.length) : ∃ x ∈ xs, xs[i.toNat]? = some x ∧ atI (xs.map V.int) i = some (.int x) := by
  have h : i.toNat < xs.length := by omega
  exact ⟨xs[i.toNat], List.getElem_mem h, List.getElem?_eq_getElem h, atI_of h0 (by rw [List.getElem?_map, List.getElem?_eq_getElem h]; rfl)⟩
end
/-! ### tuples cut and put together -/
section
variable {X : Cx}
theorem cutV_whole {xs : List V} {lo hi : Option Int} (h : HT.sIx xs.length 0 lo = 0 ∧ HT.sIx xs.length xs.length hi = xs.length) : cutV xs lo hi = xs := by
  unfold cutV
  rw [h.1, h.2]
  simp
def rSlU : V → Option Int → Option Int → Hp → VK → Prop := fun x lo hi H Q => ∃ a xs, x = .ref a ∧ H a = some (.tup xs) ∧ ∀ r H', Same H H' → H' r = some (.tup (cutV xs lo hi)) → Q (.ref r) H'
theorem sl_tupU : SlR X rSlU := by
  intro pins s σ H x v vl vu lo hi sl Q I rx hs pl pu h
  obtain ⟨a, xs, rfl, hx, q⟩ := h
  refine sl_tupA pins s σ H _ v vl vu lo hi sl Q I rx hs pl pu ⟨a, xs, rfl, SqT.of hx, fun hw => ?_, fun _ p np => ?_⟩
  · exact q a H (Same.refl H) (by rw [cutV_whole hw]; exact hx)
  · exact q p _ (same_new np) upd_same
def rCatU : R2 := fun x y H Q => ∃ a b xs ys, x = .ref a ∧ y = .ref b ∧ H a = some (.tup xs) ∧ H b = some (.tup ys) ∧ xs.length + ys.length ≤ 100000 ∧ ∀ r H', Same H H' → H' r = some (.tup (xs ++ ys)) → Q (.ref r) H'
theorem op_catU : OpR X (binaryOp .Add) rCatU := by
  intro pins s σ H x y v u Q I rx ry h
  obtain ⟨a, b, xs, ys, rfl, rfl, ha, hb, hz, q⟩ := h
  refine op_catA pins s σ H _ _ v u Q I rx ry ⟨a, b, xs, ys, rfl, rfl, SqT.of ha, SqT.of hb, Evl.sz_of hz, fun e => ?_, fun _ e => ?_, fun _ _ p np => ?_⟩
  · subst e
    exact q b H (Same.refl H) hb
  · subst e
    exact q a H (Same.refl H) (by rw [List.append_nil]; exact ha)
  · exact q p _ (same_new np) upd_same
end
/-! ### things of any kind -/
/-- its kind is known -/
def Kn (H : Hp) : V → Prop
  | .non => True
  | .bl _ => True
  | .int _ => True
  | .str _ => True
  | .ref a => (∃ xs, H a = some (.lst xs)) ∨ (∃ xs, H a = some (.tup xs)) ∨ ∃ kvs, H a = some (.dK kvs)
  | _ => False
def isI : V → Bool
  | .int _ => true
  | .bl _ => true
  | _ => false
def isB : V → Bool
  | .bl _ => true
  | _ => false
def isW : V → Bool
  | .int _ => true
  | _ => false
def isT (H : Hp) : V → Bool
  | .ref a => match H a with
    | some (.tup _) => true
    | _ => false
  | _ => false
section
variable {K : PySem.W.Frag} {H : Hp}
theorem kn_int {v : V} (h : Kn H v) : ∃ t, TyX K H v t ∧ PySem.W.kitOne K t (.type "int") = some (isI v) := by
  cases v with
  | non => exact ⟨_, .base .non, kit_ty (r := false) (by decide +kernel)⟩
  | bl b => exact ⟨_, .base (.bl b), kit_ty (r := true) (by decide +kernel)⟩
  | int i => exact ⟨_, .base (.int i), kit_ty (r := true) (by decide +kernel)⟩
  | str x => exact ⟨_, .base (.str x), kit_ty (r := false) (by decide +kernel)⟩
  | ref a =>
    rcases h with ⟨xs, h⟩ | ⟨xs, h⟩ | ⟨xs, h⟩
    · exact ⟨_, .base (.lst h), kit_ty (r := false) (by decide +kernel)⟩
    · exact ⟨_, .base (.tup h), kit_ty (r := false) (by decide +kernel)⟩
    · exact ⟨_, .base (.dK h), kit_ty (r := false) (by decide +kernel)⟩
  | byt b => exact h.elim
  | flt b => exact h.elim
  | ty n => exact h.elim
theorem kn_bool {v : V} (h : Kn H v) : ∃ t, TyX K H v t ∧ PySem.W.kitOne K t (.type "bool") = some (isB v) := by
  cases v with
  | non => exact ⟨_, .base .non, kit_ty (r := false) (by decide +kernel)⟩
  | bl b => exact ⟨_, .base (.bl b), kit_ty (r := true) (by decide +kernel)⟩
  | int i => exact ⟨_, .base (.int i), kit_ty (r := false) (by decide +kernel)⟩
  | str x => exact ⟨_, .base (.str x), kit_ty (r := false) (by decide +kernel)⟩
  | ref a =>
    rcases h with ⟨xs, h⟩ | ⟨xs, h⟩ | ⟨xs, h⟩
    · exact ⟨_, .base (.lst h), kit_ty (r := false) (by decide +kernel)⟩
    · exact ⟨_, .base (.tup h), kit_ty (r := false) (by decide +kernel)⟩
    · exact ⟨_, .base (.dK h), kit_ty (r := false) (by decide +kernel)⟩
  | byt b => exact h.elim
  | flt b => exact h.elim
  | ty n => exact h.elim
theorem kn_tup {v : V} (h : Kn H v) : ∃ t, TyX K H v t ∧ PySem.W.kitOne K t (.type "tuple") = some (isT H v) := by
  cases v with
  | non => exact ⟨_, .base .non, kit_ty (r := false) (by decide +kernel)⟩
  | bl b => exact ⟨_, .base (.bl b), kit_ty (r := false) (by decide +kernel)⟩
  | int i => exact ⟨_, .base (.int i), kit_ty (r := false) (by decide +kernel)⟩
  | str x => exact ⟨_, .base (.str x), kit_ty (r := false) (by decide +kernel)⟩
  | ref a =>
    unfold isT
    rcases h with ⟨xs, h⟩ | ⟨xs, h⟩ | ⟨xs, h⟩
    · exact ⟨_, .base (.lst h), by simp only [h]; exact kit_ty (r := false) (by decide +kernel)⟩
    · exact ⟨_, .base (.tup h), by simp only [h]; exact kit_ty (r := true) (by decide +kernel)⟩
    · exact ⟨_, .base (.dK h), by simp only [h]; exact kit_ty (r := false) (by decide +kernel)⟩
  | byt b => exact h.elim
  | flt b => exact h.elim
  | ty n => exact h.elim
theorem isT_at {v : V} (h : isT H v = true) : ∃ a xs, v = .ref a ∧ H a = some (.tup xs) := by
  cases v with
  | ref a =>
    unfold isT at h
    cases e : H a with
    | none => simp only [e] at h; cases h
    | some o =>
      cases o with
      | tup xs => exact ⟨a, xs, rfl, e⟩
      | _ => simp only [e] at h; cases h
  | _ => cases h
theorem isT_of {a : Addr} {xs : List V} (h : H a = some (.tup xs)) : isT H (.ref a) = true := by
  unfold isT
  simp only [h]
end
section
variable {P : Program} {w : World} {K : PySem.W.Frag} {mg : Str → Option Value} {base : Heap}
def spWhole : Sp := fun vs H Q _ => ∃ v, vs = [v] ∧ Kn H v ∧ Q (.bl (isW v)) H
theorem and_whole {v : V} : (isI v && !isB v) = isW v := by cases v <;> rfl
end
/-! ### ties, walks, parts: the mathematics -/
def Adj (ts : List Tie) (a b : Int) (foe : Bool) : Prop := ∃ t ∈ ts, t.foe = foe ∧ ((t.one = a ∧ t.other = b) ∨ (t.one = b ∧ t.other = a))
theorem Adj.symm {ts : List Tie} {a b : Int} {k : Bool} (h : Adj ts a b k) : Adj ts b a k := by
  obtain ⟨t, ht, e, h⟩ := h
  exact ⟨t, ht, e, h.symm⟩
/-- a walk with so many foes, even or odd -/
inductive RP (ts : List Tie) (a : Int) : Int → Bool → Prop
  | nil : RP ts a a false
  | step {b c : Int} {p k : Bool} : RP ts a b p → Adj ts b c k → RP ts a c (p ^^ k)
def Rch (ts : List Tie) (a b : Int) : Prop := ∃ p, RP ts a b p
theorem RP.trans {ts : List Tie} {a b c : Int} {p q : Bool} (h : RP ts a b p) (g : RP ts b c q) : RP ts a c (p ^^ q) := by
  induction g with
  | nil =>
    rw [Bool.xor_false]
    exact h
  | step _ k ih =>
    rw [← Bool.xor_assoc]
    exact ih.step k
theorem RP.one {ts : List Tie} {a b : Int} {k : Bool} (h : Adj ts a b k) : RP ts a b k := by
  have q := RP.nil.step h
  rw [Bool.false_xor] at q
  exact q
theorem RP.symm {ts : List Tie} {a b : Int} {p : Bool} (h : RP ts a b p) : RP ts b a p := by
  induction h with
  | nil => exact .nil
  | step _ k ih =>
    have q := (RP.one k.symm).trans ih
    rw [Bool.xor_comm] at q
    exact q
theorem Rch.refl {ts : List Tie} {a : Int} : Rch ts a a := ⟨_, .nil⟩
theorem Rch.symm {ts : List Tie} {a b : Int} (h : Rch ts a b) : Rch ts b a := by
  obtain ⟨p, h⟩ := h
  exact ⟨p, h.symm⟩
theorem Rch.trans {ts : List Tie} {a b c : Int} (h : Rch ts a b) (g : Rch ts b c) : Rch ts a c := by
  obtain ⟨p, h⟩ := h
  obtain ⟨q, g⟩ := g
  exact ⟨_, h.trans g⟩
theorem Rch.adj {ts : List Tie} {a b : Int} {k : Bool} (h : Adj ts a b k) : Rch ts a b := ⟨_, RP.one h⟩
theorem Rch.ind {ts : List Tie} {a b : Int} (C : Int → Prop) (h : Rch ts a b) (h0 : C a) (hs : ∀ x y k, C x → Adj ts x y k → C y) : C b := by
  obtain ⟨p, h⟩ := h
  induction h with
  | nil => exact h0
  | step _ k ih => exact hs _ _ _ ih k
theorem Adj.rng {ts : List Tie} {n a b : Int} {k : Bool} (ok : ∀ t ∈ ts, TieOk n t) (h : Adj ts a b k) : 0 ≤ b ∧ b < n := by
  obtain ⟨t, ht, _, h⟩ := h
  obtain ⟨h1, h2, h3, h4, _⟩ := ok t ht
  rcases h with ⟨e1, e2⟩ | ⟨e1, e2⟩
  · omega
  · omega
theorem Rch.rng {ts : List Tie} {n a b : Int} (ok : ∀ t ∈ ts, TieOk n t) (ha : 0 ≤ a ∧ a < n) (h : Rch ts a b) : 0 ≤ b ∧ b < n := h.ind (fun x => 0 ≤ x ∧ x < n) ha fun _ _ _ _ k => k.rng ok
def leader (ts : List Tie) (s : Int) : Prop := ∀ q, Rch ts s q → s ≤ q
/-- rising lists of the same numbers are one -/
theorem rising_ext : ∀ {xs ys : List Int}, xs.Pairwise (· < ·) → ys.Pairwise (· < ·) → (∀ z, z ∈ xs ↔ z ∈ ys) → xs = ys
  | [], [], _, _, _ => rfl
  | [], y :: ys, _, _, h => by have := (h y).mpr (by simp); simp at this
  | x :: xs, [], _, _, h => by have := (h x).mp (by simp); simp at this
  | x :: xs, y :: ys, hx, hy, h => by
    rw [List.pairwise_cons] at hx hy
    have e : x = y := by
      have h1 := (h x).mp (by simp)
      have h2 := (h y).mpr (by simp)
      rcases List.mem_cons.mp h1 with e | e
      · exact e
      · rcases List.mem_cons.mp h2 with e' | e'
        · exact e'.symm
        · have := hx.1 y e'
          have := hy.1 x e
          omega
    subst e
    rw [rising_ext hx.2 hy.2 fun z => ?_]
    constructor
    · intro hz
      rcases List.mem_cons.mp ((h z).mp (List.mem_cons_of_mem _ hz)) with e | e
      · have := hx.1 z hz
        omega
      · exact e
    · intro hz
      rcases List.mem_cons.mp ((h z).mpr (List.mem_cons_of_mem _ hz)) with e | e
      · have := hy.1 z hz
        omega
      · exact e
/-- 0, 1, .., n - 1 -/
def rng (n : Nat) : List Int := (List.range n).map fun (i : Nat) => (i : Int)
theorem mem_rng {n : Nat} {z : Int} : z ∈ rng n ↔ 0 ≤ z ∧ z < n := by
  unfold rng
  rw [List.mem_map]
  constructor
  · rintro ⟨i, hi, rfl⟩
    have := List.mem_range.mp hi
    omega
  · rintro ⟨h1, h2⟩
    exact ⟨z.toNat, List.mem_range.mpr (by omega), by omega⟩
theorem rng_rising (n : Nat) : (rng n).Pairwise (· < ·) := by
  unfold rng
  rw [List.pairwise_map]
  exact List.pairwise_lt_range.imp (by intro a b h; omega)
theorem rng_succ (n : Nat) : rng (n + 1) = rng n ++ [(n : Int)] := by
  unfold rng
  rw [List.range_succ, List.map_append]
  rfl
theorem rng_length (n : Nat) : (rng n).length = n := by
  unfold rng
  rw [List.length_map, List.length_range]
open Classical in
/-- the part of s -/
noncomputable def partOf (ts : List Tie) (n : Nat) (s : Int) : List Int := (rng n).filter fun p => decide (Rch ts s p)
open Classical in
/-- the parts by their first places, below i -/
noncomputable def partsTo (ts : List Tie) (n i : Nat) : List (List Int) := ((rng i).filter fun s => decide (leader ts s)).map (partOf ts n)
open Classical in
theorem partsTo_succ (ts : List Tie) (n i : Nat) : partsTo ts n (i + 1) = partsTo ts n i ++ (if leader ts i then [partOf ts n i] else []) := by
  unfold partsTo
  rw [rng_succ, List.filter_append, List.map_append]
  congr 1
  by_cases h : leader ts (i : Int)
  · rw [if_pos h, List.filter_cons, if_pos (decide_eq_true h)]
    rfl
  · rw [if_neg h, List.filter_cons, if_neg (by simpa using h)]
    rfl
theorem part_rising (ts : List Tie) (n : Nat) (s : Int) : (partOf ts n s).Pairwise (· < ·) := (rng_rising n).filter _
theorem mem_part {ts : List Tie} {n : Nat} {s z : Int} : z ∈ partOf ts n s ↔ (0 ≤ z ∧ z < n) ∧ Rch ts s z := by
  unfold partOf
  rw [List.mem_filter, mem_rng]
  simp
/-! ### the least place that each comes to, gone over again and again -/
def relax (f : Int → Int) (t : Tie) : Int → Int := fun x => if x = t.one ∨ x = t.other then min (f t.one) (f t.other) else f x
def rounds (ts : List Tie) : Nat → Int → Int
  | 0 => fun x => x
  | r + 1 => ts.foldl relax (rounds ts r)
theorem relax_le (f : Int → Int) (t : Tie) (x : Int) : relax f t x ≤ f x := by
  unfold relax
  split
  · rename_i h
    rcases h with rfl | rfl <;> omega
  · exact Int.le_refl _
theorem fold_le : ∀ (l : List Tie) (f : Int → Int) (x : Int), l.foldl relax f x ≤ f x
  | [], _, _ => Int.le_refl _
  | t :: l, f, x => Int.le_trans (fold_le l (relax f t) x) (relax_le f t x)
theorem fold_tie : ∀ (l : List Tie) (f : Int → Int) (t : Tie), t ∈ l → l.foldl relax f t.one ≤ min (f t.one) (f t.other) ∧ l.foldl relax f t.other ≤ min (f t.one) (f t.other)
  | t' :: l, f, t, h => by
    rcases List.mem_cons.mp h with e | e
    · subst e
      have h1 := fold_le l (relax f t) t.one
      have h2 := fold_le l (relax f t) t.other
      have e1 : relax f t t.one = min (f t.one) (f t.other) := by unfold relax; rw [if_pos (.inl rfl)]
      have e2 : relax f t t.other = min (f t.one) (f t.other) := by unfold relax; rw [if_pos (.inr rfl)]
      rw [e1] at h1
      rw [e2] at h2
      exact ⟨h1, h2⟩
    · have ih := fold_tie l (relax f t') t e
      have h1 := relax_le f t' t.one
      have h2 := relax_le f t' t.other
      exact ⟨Int.le_trans ih.1 (by omega), Int.le_trans ih.2 (by omega)⟩
theorem fold_rch {ts : List Tie} : ∀ (l : List Tie) (f : Int → Int), (∀ t ∈ l, t ∈ ts) → (∀ x, Rch ts x (f x)) → ∀ x, Rch ts x (l.foldl relax f x)
  | [], _, _, h => h
  | t :: l, f, hl, h => fold_rch l (relax f t) (fun t' ht => hl t' (List.mem_cons_of_mem _ ht)) fun x => by
    have ad : Rch ts t.one t.other := Rch.adj (k := t.foe) ⟨t, hl t (by simp), rfl, .inl ⟨rfl, rfl⟩⟩
    unfold relax
    split
    · rename_i hx
      have key : Rch ts x t.one ∧ Rch ts x t.other := by
        rcases hx with e | e <;> subst e
        · exact ⟨Rch.refl, ad⟩
        · exact ⟨ad.symm, Rch.refl⟩
      rcases Int.le_total (f t.one) (f t.other) with q | q
      · rw [Int.min_eq_left q]
        exact key.1.trans (h _)
      · rw [Int.min_eq_right q]
        exact key.2.trans (h _)
    · exact h x
theorem rounds_rch (ts : List Tie) : ∀ (r : Nat) (x : Int), Rch ts x (rounds ts r x)
  | 0, _ => Rch.refl
  | r + 1, x => fold_rch ts _ (fun _ h => h) (rounds_rch ts r) x
theorem filter_lt {p q : Int → Bool} : ∀ {l : List Int}, (∀ x ∈ l, q x = true → p x = true) → (∃ x ∈ l, p x = true ∧ q x = false) → (l.filter q).length < (l.filter p).length
  | [], _, ⟨x, hx, _⟩ => by simp at hx
  | y :: l, hi, ⟨x, hx, hp, hq⟩ => by
    have mono : (l.filter q).length ≤ (l.filter p).length := by
      have hi' : ∀ x ∈ l, q x = true → p x = true := fun x h => hi x (List.mem_cons_of_mem _ h)
      clear hi hx hp hq
      induction l with
      | nil => exact Nat.le_refl _
      | cons z l ih =>
        have ih := ih fun x h => hi' x (List.mem_cons_of_mem _ h)
        rw [List.filter_cons, List.filter_cons]
        have hz := hi' z (by simp)
        cases h1 : q z <;> cases h2 : p z <;> simp_all <;> omega
    rw [List.filter_cons, List.filter_cons]
    rcases List.mem_cons.mp hx with e | e
    · subst e
      rw [hq, hp]
      simp
      omega
    · have ih := filter_lt (l := l) (fun x h => hi x (List.mem_cons_of_mem _ h)) ⟨x, e, hp, hq⟩
      have hy := hi y (by simp)
      cases h1 : q y <;> cases h2 : p y <;> simp_all <;> omega
open Classical in
/-- behind as many rounds as there are places each has its part's least place -/
theorem rounds_least {ts : List Tie} {n : Nat} (ok : ∀ t ∈ ts, TieOk n t) {m p : Int} (hm : leader ts m) (h0 : 0 ≤ m ∧ m < n) (hp : Rch ts m p) : rounds ts n p = m := by
  have ge : ∀ r x, Rch ts m x → m ≤ rounds ts r x := fun r x hx => hm _ (hx.trans (rounds_rch ts r x))
  have mono : ∀ r x, rounds ts (r + 1) x ≤ rounds ts r x := fun r x => fold_le ts _ x
  have atm : ∀ r, rounds ts r m = m := fun r => by
    have h1 := ge r m Rch.refl
    have h2 : rounds ts r m ≤ m := by
      induction r with
      | zero => exact Int.le_refl _
      | succ r ih => exact Int.le_trans (mono r m) (ih (ge r m Rch.refl))
    omega
  have cnt : ∀ r, ((rng n).filter fun x => decide (Rch ts m x ∧ rounds ts r x ≠ m)).length ≤ n - r := fun r => by
    induction r with
    | zero =>
      refine Nat.le_trans (List.length_filter_le _ _) ?_
      rw [rng_length]
      omega
    | succ r ih =>
      by_cases hex : ∃ x, Rch ts m x ∧ rounds ts r x ≠ m
      · obtain ⟨x, hx, hne⟩ := hex
        -- an edge over which it comes
        have edge : ∃ a b k, Rch ts m a ∧ rounds ts r a = m ∧ Adj ts a b k ∧ rounds ts r b ≠ m := by
          by_cases hn : ∃ a b k, Rch ts m a ∧ rounds ts r a = m ∧ Adj ts a b k ∧ rounds ts r b ≠ m
          · exact hn
          · exfalso
            refine hne (hx.ind (fun y => Rch ts m y ∧ rounds ts r y = m) ⟨Rch.refl, atm r⟩ fun a b k ha k' => ⟨ha.1.trans (Rch.adj k'), ?_⟩).2
            by_cases hb : rounds ts r b = m
            · exact hb
            · exact absurd ⟨a, b, k, ha.1, ha.2, k', hb⟩ hn
        obtain ⟨a, b, k, ha, ha2, hab, hb⟩ := edge
        have hmb : Rch ts m b := ha.trans (Rch.adj hab)
        have hb' : rounds ts (r + 1) b = m := by
          have h1 := ge (r + 1) b hmb
          obtain ⟨t, ht, _, h⟩ := hab
          have ft := fold_tie ts (rounds ts r) t ht
          have h2 : rounds ts (r + 1) b ≤ m := by
            rcases h with ⟨e1, e2⟩ | ⟨e1, e2⟩
            · have q := ft.2
              rw [e1, e2, ha2] at q
              exact Int.le_trans q (by omega)
            · have q := ft.1
              rw [e1, e2, ha2] at q
              exact Int.le_trans q (by omega)
          omega
        have lt := filter_lt (p := fun x => decide (Rch ts m x ∧ rounds ts r x ≠ m)) (q := fun x => decide (Rch ts m x ∧ rounds ts (r + 1) x ≠ m)) (l := rng n) (fun x _ hq => by
          have hq := of_decide_eq_true hq
          refine decide_eq_true ⟨hq.1, fun z => hq.2 ?_⟩
          have h1 := ge (r + 1) x hq.1
          have h2 := mono r x
          omega) ⟨b, mem_rng.mpr (hmb.rng ok h0), decide_eq_true ⟨hmb, hb⟩, decide_eq_false fun z => z.2 hb'⟩
        omega
      · have e : (rng n).filter (fun x => decide (Rch ts m x ∧ rounds ts (r + 1) x ≠ m)) = [] := by
          rw [List.filter_eq_nil_iff]
          intro x _ hq
          have hq := of_decide_eq_true hq
          refine hex ⟨x, hq.1, fun z => hq.2 ?_⟩
          have h1 := ge (r + 1) x hq.1
          have h2 := mono r x
          omega
        rw [e]
        exact Nat.zero_le _
  have c := cnt n
  rw [Nat.sub_self] at c
  have e := List.eq_nil_of_length_eq_zero (Nat.le_zero.mp c)
  by_cases hne : rounds ts n p = m
  · exact hne
  · rw [List.filter_eq_nil_iff] at e
    exact absurd (decide_eq_true ⟨hp, hne⟩) (e p (mem_rng.mpr (hp.rng ok h0)))
open Classical in
/-- each has a least place -/
theorem has_leader {ts : List Tie} {n : Nat} (ok : ∀ t ∈ ts, TieOk n t) {p : Int} (h0 : 0 ≤ p ∧ p < n) : ∃ m, leader ts m ∧ (0 ≤ m ∧ m < n) ∧ Rch ts m p := by
  have key : ∀ (k : Nat) (x : Int), x = k → Rch ts p x → ∃ m, leader ts m ∧ (0 ≤ m ∧ m < n) ∧ Rch ts m p := by
    intro k
    induction k using Nat.strongRecOn with
    | ind k ih =>
      intro x hx hr
      have hxr := hr.rng ok h0
      by_cases hl : leader ts x
      · exact ⟨x, hl, hxr, hr.symm⟩
      · have hl' : ∃ q, Rch ts x q ∧ q < x := by
          by_cases h : ∃ q, Rch ts x q ∧ q < x
          · exact h
          · exfalso
            refine hl fun q hq => ?_
            by_cases h' : q < x
            · exact absurd ⟨q, hq, h'⟩ h
            · omega
        obtain ⟨q, hq, hlt⟩ := hl'
        have hqr := hq.rng ok hxr
        exact ih q.toNat (by omega) q (by omega) (hr.trans hq)
  exact key p.toNat p (by omega) Rch.refl
/-! ### rows of numbers as data -/
def IntsV (H : Hp) (v : V) (xs : List Int) : Prop := ∃ b, v = .ref b ∧ H b = some (.tup (xs.map V.int))
theorem IntsV.tk {H H' : Hp} (k : Tk H H') {v : V} {xs : List Int} (h : IntsV H v xs) : IntsV H' v xs := by
  obtain ⟨a, rfl, e⟩ := h
  exact ⟨a, rfl, k _ _ e⟩
def intsD (xs : List Int) : PyData := .tuple (xs.map PyData.int)
section
variable {K : PySem.W.Frag} {H : Hp}
theorem dp_ints : ∀ (xs : List Int), DpAll K H (xs.map V.int) (xs.map PyData.int)
  | [] => .nil
  | x :: xs => .cons (.int x) (dp_ints xs)
theorem IntsV.dp {v : V} {xs : List Int} (h : IntsV H v xs) : Dp K H v (intsD xs) := by
  obtain ⟨b, rfl, e⟩ := h
  exact .tup (SqT.of e) (dp_ints xs)
end
theorem lay_ints : ∀ xs : List Int, PyData.canLayAll0 (xs.map PyData.int) = true
  | [] => by simp [PyData.canLayAll0]
  | x :: xs => by simp [PyData.canLayAll0, PyData.canLay0, lay_ints xs]
theorem deep_ints : ∀ xs : List Int, PyData.depthAll (xs.map PyData.int) = 0
  | [] => by simp [PyData.depthAll]
  | x :: xs => by simp [PyData.depthAll, PyData.depth, deep_ints xs]
theorem lay_intsD (xs : List Int) : (intsD xs).canLay0 = true := by
  unfold intsD
  rw [PyData.canLay0]
  exact lay_ints xs
theorem deep_intsD (xs : List Int) : (intsD xs).depth = 1 := by
  unfold intsD
  rw [PyData.depth, deep_ints]
theorem shaped_intsD (xs : List Int) : SeqAt.shaped (intsD xs) = true := by
  unfold SeqAt.shaped
  rw [lay_intsD, deep_intsD]
  rfl
theorem eqv_nil (xs : List Int) : PyData.eqv (intsD xs) (intsD []) = xs.isEmpty := by
  unfold intsD
  rw [PyData.eqv]
  cases xs <;> rfl

theorem Same.mut {H H' : Hp} {a : Addr} {o : HO} (s : Same H H') (h : H a = none) : Same H (upd H' a o) := fun b x e => by
  rw [upd_ne (ne_of_none e h)]
  exact s b x e
theorem at0 {α : Type} (x : α) (xs : List α) : atI (x :: xs) 0 = some x := atI_nat (j := 0) rfl
/-! ### stems (mathematics) -/
theorem Rch.mono {ts ts' : List Tie} (h : ∀ t ∈ ts, t ∈ ts') {a b : Int} (r : Rch ts a b) : Rch ts' a b :=
  r.ind (fun x => Rch ts' a x) .refl fun x y k hx ad => by
    obtain ⟨t, ht, e⟩ := ad
    exact hx.trans (Rch.adj (k := k) ⟨t, h t ht, e⟩)
theorem rch_pq {ts : List Tie} {t : Tie} {p q : Int} (h : (p = t.one ∧ q = t.other) ∨ (p = t.other ∧ q = t.one)) : Rch (ts ++ [t]) p q := by
  refine Rch.adj (k := t.foe) ⟨t, List.mem_append_right _ (by simp), rfl, ?_⟩
  rcases h with ⟨h1, h2⟩ | ⟨h1, h2⟩
  · exact .inl ⟨h1.symm, h2.symm⟩
  · exact .inr ⟨h2.symm, h1.symm⟩
theorem rch_snoc {ts : List Tie} {t : Tie} {p q : Int} (h : (p = t.one ∧ q = t.other) ∨ (p = t.other ∧ q = t.one)) {a b : Int} : Rch (ts ++ [t]) a b ↔ Rch ts a b ∨ (Rch ts a p ∧ Rch ts q b) ∨ (Rch ts a q ∧ Rch ts p b) := by
  have up : ∀ {x y : Int}, Rch ts x y → Rch (ts ++ [t]) x y := fun r => r.mono fun t ht => List.mem_append_left _ ht
  constructor
  · intro r
    refine r.ind (fun x => Rch ts a x ∨ (Rch ts a p ∧ Rch ts q x) ∨ (Rch ts a q ∧ Rch ts p x)) (.inl .refl) fun x y k hx ad => ?_
    obtain ⟨t', ht, e1, e2⟩ := ad
    rcases List.mem_append.mp ht with ht | ht
    · have st : Rch ts x y := Rch.adj (k := k) ⟨t', ht, e1, e2⟩
      rcases hx with h1 | ⟨h1, h2⟩ | ⟨h1, h2⟩
      · exact .inl (h1.trans st)
      · exact .inr (.inl ⟨h1, h2.trans st⟩)
      · exact .inr (.inr ⟨h1, h2.trans st⟩)
    · rw [List.mem_singleton] at ht
      subst ht
      have xy : (x = p ∧ y = q) ∨ (x = q ∧ y = p) := by
        rcases e2 with ⟨e2, e3⟩ | ⟨e2, e3⟩ <;> rcases h with ⟨h1, h2⟩ | ⟨h1, h2⟩
        · exact .inl ⟨by omega, by omega⟩
        · exact .inr ⟨by omega, by omega⟩
        · exact .inr ⟨by omega, by omega⟩
        · exact .inl ⟨by omega, by omega⟩
      rcases xy with ⟨rfl, rfl⟩ | ⟨rfl, rfl⟩
      · rcases hx with h1 | ⟨h1, h2⟩ | ⟨h1, h2⟩
        · exact .inr (.inl ⟨h1, .refl⟩)
        · exact .inr (.inl ⟨h1, .refl⟩)
        · exact .inl h1
      · rcases hx with h1 | ⟨h1, h2⟩ | ⟨h1, h2⟩
        · exact .inr (.inr ⟨h1, .refl⟩)
        · exact .inl h1
        · exact .inr (.inr ⟨h1, .refl⟩)
  · rintro (h1 | ⟨h1, h2⟩ | ⟨h1, h2⟩)
    · exact up h1
    · exact (up h1).trans ((rch_pq h).trans (up h2))
    · exact (up h1).trans ((rch_pq h).symm.trans (up h2))
theorem rch_nil {a b : Int} (h : Rch [] a b) : a = b := h.ind (fun x => a = x) rfl fun x y k _ ad => by
  obtain ⟨t, ht, _⟩ := ad
  simp at ht
def tieN (ts : List Tie) (k : Nat) : Tie := ts.getD k ⟨0, 0, false⟩
theorem tieN_of {ts : List Tie} {k : Nat} {t : Tie} (h : ts[k]? = some t) : tieN ts k = t := by
  unfold tieN
  rw [List.getD_eq_getElem?_getD, h]
  rfl
open Classical in
noncomputable def stemB (ts : List Tie) (k : Nat) : Bool := decide (¬ Rch (ts.take k) (tieN ts k).one (tieN ts k).other)
noncomputable def stemsTo (ts : List Tie) (k : Nat) : List Int := (rng k).filter fun i => stemB ts i.toNat
theorem stemsTo_succ (ts : List Tie) (k : Nat) : stemsTo ts (k + 1) = stemsTo ts k ++ (if stemB ts k = true then [(k : Int)] else []) := by
  unfold stemsTo
  rw [rng_succ, List.filter_append, List.filter_cons, Int.toNat_natCast]
  rfl
theorem stemsTo_len (ts : List Tie) (k : Nat) : (stemsTo ts k).length ≤ k := by
  unfold stemsTo
  have := List.length_filter_le (fun i => stemB ts i.toNat) (rng k)
  rw [rng_length] at this
  exact this
open Classical in
theorem stem_iff {ts : List Tie} {k : Nat} {t : Tie} (h : ts[k]? = some t) : stemB ts k = true ↔ ¬ Rch (ts.take k) t.one t.other := by
  unfold stemB
  rw [tieN_of h]
  exact decide_eq_true_iff
theorem take_snoc {α : Type} {ts : List α} {k : Nat} {t : α} (h : ts[k]? = some t) : ts.take (k + 1) = ts.take k ++ [t] := by
  rw [List.take_add_one, h]
  rfl
/-- labels: alike just where ties lead -/
def Lab (ts : List Tie) (n : Nat) (g : Int → Int) : Prop := ∀ i j : Int, 0 ≤ i → i < n → 0 ≤ j → j < n → (g i = g j ↔ Rch ts i j)
def mrg (g : Int → Int) (old new : Int) : Int → Int := fun x => if g x = old then new else g x
theorem lab_nil (n : Nat) : Lab [] n (fun i => i) := fun i j _ _ _ _ => ⟨fun h => by rw [show i = j from h]; exact .refl, fun h => rch_nil h⟩
theorem lab_same {ts : List Tie} {n : Nat} {g : Int → Int} {t : Tie} (h : Lab ts n g) (ok : TieOk n t) (e : g t.one = g t.other) : Lab (ts ++ [t]) n g := fun i j i0 i1 j0 j1 => by
  obtain ⟨o1, o2, o3, o4, _⟩ := ok
  have r : Rch ts t.one t.other := (h _ _ o1 o2 o3 o4).mp e
  rw [rch_snoc (.inl ⟨rfl, rfl⟩), h i j i0 i1 j0 j1]
  constructor
  · exact .inl
  · rintro (h1 | ⟨h1, h2⟩ | ⟨h1, h2⟩)
    · exact h1
    · exact h1.trans (r.trans h2)
    · exact h1.trans (r.symm.trans h2)
theorem lab_step {ts : List Tie} {n : Nat} {g : Int → Int} {t : Tie} {p q : Int} (h : Lab ts n g) (ok : TieOk n t) (e : (p = t.one ∧ q = t.other) ∨ (p = t.other ∧ q = t.one)) : Lab (ts ++ [t]) n (mrg g (g p) (g q)) := fun i j i0 i1 j0 j1 => by
  have pr : (0 ≤ p ∧ p < n) ∧ (0 ≤ q ∧ q < n) := by
    obtain ⟨o1, o2, o3, o4, _⟩ := ok
    rcases e with ⟨rfl, rfl⟩ | ⟨rfl, rfl⟩
    · exact ⟨⟨o1, o2⟩, o3, o4⟩
    · exact ⟨⟨o3, o4⟩, o1, o2⟩
  obtain ⟨⟨p0, p1⟩, q0, q1⟩ := pr
  rw [rch_snoc e]
  unfold mrg
  have ip := h i p i0 i1 p0 p1
  have jp := h j p j0 j1 p0 p1
  have iq := h i q i0 i1 q0 q1
  have jq := h j q j0 j1 q0 q1
  have ij := h i j i0 i1 j0 j1
  by_cases hi : g i = g p <;> by_cases hj : g j = g p
  · rw [if_pos hi, if_pos hj]
    exact ⟨fun _ => .inl (ij.mp (hi.trans hj.symm)), fun _ => rfl⟩
  · rw [if_pos hi, if_neg hj]
    constructor
    · intro z
      exact .inr (.inl ⟨ip.mp hi, (jq.mp z.symm).symm⟩)
    · rintro (z | ⟨_, z⟩ | ⟨_, z⟩)
      · exact absurd ((ij.mpr z).symm.trans hi) hj
      · exact (jq.mpr z.symm).symm
      · exact absurd (jp.mpr z.symm) hj
  · rw [if_neg hi, if_pos hj]
    constructor
    · intro z
      exact .inr (.inr ⟨iq.mp z, (jp.mp hj).symm⟩)
    · rintro (z | ⟨z, _⟩ | ⟨z, _⟩)
      · exact absurd ((ij.mpr z).trans hj) hi
      · exact absurd (ip.mpr z) hi
      · exact iq.mpr z
  · rw [if_neg hi, if_neg hj]
    constructor
    · intro z
      exact .inl (ij.mp z)
    · rintro (z | ⟨z, _⟩ | ⟨_, z⟩)
      · exact ij.mpr z
      · exact absurd (ip.mpr z) hi
      · exact absurd (jp.mpr z.symm) hj
/-- heads: labels that are places of their own; how many -/
structure Heads (ts : List Tie) (n i : Nat) (g : Int → Int) : Prop where
  lab : Lab (ts.take i) n g
  rng : ∀ x : Int, 0 ≤ x → x < n → 0 ≤ g x ∧ g x < n
  idem : ∀ x : Int, 0 ≤ x → x < n → g (g x) = g x
  cnt : ((FF.rng n).filter fun x => decide (g x = x)).length + (stemsTo ts i).length = n
theorem heads_nil (ts : List Tie) (n : Nat) : Heads ts n 0 (fun i => i) := by
  refine ⟨by rw [List.take_zero]; exact lab_nil n, fun x h0 h1 => ⟨h0, h1⟩, fun x _ _ => rfl, ?_⟩
  have e : ((FF.rng n).filter fun x => decide (x = x)) = FF.rng n := by
    rw [List.filter_eq_self]
    intro x _
    exact decide_eq_true rfl
  show ((FF.rng n).filter fun x => decide (x = x)).length + 0 = n
  rw [e, rng_length, Nat.add_zero]
theorem filter_drop {p q : Int → Bool} {h : Int} : ∀ {l : List Int}, l.Nodup → h ∈ l → p h = true → (∀ x ∈ l, q x = (p x && decide (x ≠ h))) → (l.filter q).length + 1 = (l.filter p).length
  | x :: l, nd, hm, hp, hq => by
    rw [List.nodup_cons] at nd
    have hx := hq x (by simp)
    rw [List.filter_cons, List.filter_cons, hx]
    by_cases e : x = h
    · subst e
      have same : l.filter q = l.filter p := List.filter_congr fun y hy => by
        rw [hq y (List.mem_cons_of_mem _ hy), decide_eq_true (show y ≠ x from fun z => nd.1 (by rw [← z]; exact hy)), Bool.and_true]
      rw [same, hp]
      simp
    · have hm' : h ∈ l := (List.mem_cons.mp hm).elim (fun z => absurd z.symm e) id
      have ih := filter_drop (l := l) nd.2 hm' hp fun y hy => hq y (List.mem_cons_of_mem _ hy)
      rw [decide_eq_true (show x ≠ h from e), Bool.and_true]
      cases p x
      · simpa using ih
      · simp
        omega
theorem heads_same {ts : List Tie} {n i : Nat} {g : Int → Int} {t : Tie} (h : Heads ts n i g) (et : ts[i]? = some t) (ok : TieOk n t) (e : g t.one = g t.other) : Heads ts n (i + 1) g := by
  refine ⟨by rw [take_snoc et]; exact lab_same h.lab ok e, h.rng, h.idem, ?_⟩
  have no : ¬ stemB ts i = true := fun z => (stem_iff et).mp z ((h.lab _ _ ok.1 ok.2.1 ok.2.2.1 ok.2.2.2.1).mp e)
  rw [stemsTo_succ, if_neg no, List.append_nil]
  exact h.cnt
theorem heads_step {ts : List Tie} {n i : Nat} {g : Int → Int} {t : Tie} {p q : Int} (h : Heads ts n i g) (et : ts[i]? = some t) (ok : TieOk n t) (e : (p = t.one ∧ q = t.other) ∨ (p = t.other ∧ q = t.one)) (ne : g p ≠ g q) : Heads ts n (i + 1) (mrg g (g p) (g q)) := by
  have pr : (0 ≤ p ∧ p < n) ∧ (0 ≤ q ∧ q < n) := by
    obtain ⟨o1, o2, o3, o4, _⟩ := ok
    rcases e with ⟨rfl, rfl⟩ | ⟨rfl, rfl⟩
    · exact ⟨⟨o1, o2⟩, o3, o4⟩
    · exact ⟨⟨o3, o4⟩, o1, o2⟩
  obtain ⟨⟨p0, p1⟩, q0, q1⟩ := pr
  have gp := h.rng p p0 p1
  have gq := h.rng q q0 q1
  have ip := h.idem p p0 p1
  have iq := h.idem q q0 q1
  refine ⟨by rw [take_snoc et]; exact lab_step h.lab ok e, fun x x0 x1 => ?_, fun x x0 x1 => ?_, ?_⟩
  · unfold mrg
    split
    · exact gq
    · exact h.rng x x0 x1
  · have ix := h.idem x x0 x1
    by_cases hx : g x = g p
    · have e1 : mrg g (g p) (g q) x = g q := if_pos hx
      rw [e1]
      show (if g (g q) = g p then g q else g (g q)) = g q
      rw [iq, if_neg (Ne.symm ne)]
    · have e1 : mrg g (g p) (g q) x = g x := if_neg hx
      rw [e1]
      show (if g (g x) = g p then g q else g (g x)) = g x
      rw [ix, if_neg hx]
  · have yes : stemB ts i = true := (stem_iff et).mpr fun z => by
      have hl := (h.lab _ _ ok.1 ok.2.1 ok.2.2.1 ok.2.2.2.1).mpr z
      rcases e with ⟨rfl, rfl⟩ | ⟨rfl, rfl⟩
      · exact ne hl
      · exact ne hl.symm
    have drop := filter_drop (p := fun x => decide (g x = x)) (q := fun x => decide (mrg g (g p) (g q) x = x)) (h := g p) (l := FF.rng n) ((rng_rising n).imp fun h => by omega) (mem_rng.mpr gp) (decide_eq_true ip) (fun x hx => ?_)
    · rw [stemsTo_succ, if_pos yes, List.length_append]
      have := h.cnt
      simp only [List.length_cons, List.length_nil]
      omega
    · have xr := mem_rng.mp hx
      rw [Bool.eq_iff_iff, Bool.and_eq_true, decide_eq_true_iff, decide_eq_true_iff, decide_eq_true_iff]
      show (if g x = g p then g q else g x) = x ↔ _
      by_cases hx : g x = g p
      · rw [if_pos hx]
        constructor
        · intro z
          exact absurd (by rw [← z, iq] at hx; exact hx.symm) ne
        · rintro ⟨z1, z2⟩
          exact absurd (z1.symm.trans hx) z2
      · rw [if_neg hx]
        exact ⟨fun z => ⟨z, fun y => hx (by rw [y]; exact ip)⟩, fun z => z.1⟩
/-- stems are told by the places of the ties alone -/
theorem rch_frames : ∀ {ts us : List Tie}, ts.length = us.length → (∀ (i : Nat) t u, ts[i]? = some t → us[i]? = some u → (u.one = t.one ∧ u.other = t.other) ∨ (u.one = t.other ∧ u.other = t.one)) → ∀ {a b : Int}, Rch ts a b → Rch us a b := by
  intro ts us hl h a b r
  refine r.ind (fun x => Rch us a x) .refl fun x y k hx ad => ?_
  obtain ⟨t, ht, _, e⟩ := ad
  obtain ⟨i, hi, rfl⟩ := List.getElem_of_mem ht
  have hu : us[i]? = some us[i] := List.getElem?_eq_getElem (by omega)
  have w := h i _ _ (List.getElem?_eq_getElem hi) hu
  refine hx.trans (Rch.adj (k := us[i].foe) ⟨us[i], List.getElem_mem _, rfl, ?_⟩)
  rcases w with ⟨w1, w2⟩ | ⟨w1, w2⟩ <;> rcases e with ⟨e1, e2⟩ | ⟨e1, e2⟩
  · exact .inl ⟨by omega, by omega⟩
  · exact .inr ⟨by omega, by omega⟩
  · exact .inr ⟨by omega, by omega⟩
  · exact .inl ⟨by omega, by omega⟩
def Framed (ts us : List Tie) : Prop := ts.length = us.length ∧ ∀ (i : Nat) t u, ts[i]? = some t → us[i]? = some u → (u.one = t.one ∧ u.other = t.other) ∨ (u.one = t.other ∧ u.other = t.one)
theorem Framed.symm {ts us : List Tie} (h : Framed ts us) : Framed us ts := ⟨h.1.symm, fun i u t e1 e2 => by
  rcases h.2 i t u e2 e1 with ⟨w1, w2⟩ | ⟨w1, w2⟩
  · exact .inl ⟨w1.symm, w2.symm⟩
  · exact .inr ⟨w2.symm, w1.symm⟩⟩
theorem Framed.take {ts us : List Tie} (h : Framed ts us) (k : Nat) : Framed (ts.take k) (us.take k) := by
  refine ⟨by rw [List.length_take, List.length_take, h.1], fun i t u e1 e2 => ?_⟩
  by_cases hk : i < k
  · rw [List.getElem?_take_of_lt hk] at e1 e2
    exact h.2 i t u e1 e2
  · rw [List.getElem?_take] at e1
    rw [if_neg hk] at e1
    cases e1
theorem Framed.map {ts : List Tie} {f : Tie → Tie} (h : ∀ t ∈ ts, ((f t).one = t.one ∧ (f t).other = t.other) ∨ ((f t).one = t.other ∧ (f t).other = t.one)) : Framed ts (ts.map f) := by
  refine ⟨by rw [List.length_map], fun i t u e1 e2 => ?_⟩
  rw [List.getElem?_map, e1] at e2
  cases e2
  exact h t (List.mem_of_getElem? e1)
theorem stems_framed {ts us : List Tie} (h : Framed ts us) : stemsTo us us.length = stemsTo ts ts.length := by
  unfold stemsTo
  rw [← h.1]
  refine List.filter_congr fun i hi => ?_
  have ir := mem_rng.mp hi
  have e1 : ts[i.toNat]? = some ts[i.toNat] := List.getElem?_eq_getElem (by omega)
  have l := h.1
  have e2 : us[i.toNat]? = some us[i.toNat] := List.getElem?_eq_getElem (by omega)
  have ht := h.take i.toNat
  rw [Bool.eq_iff_iff, stem_iff e1, stem_iff e2]
  have both : ∀ a b : Int, Rch (ts.take i.toNat) a b ↔ Rch (us.take i.toNat) a b := fun a b => ⟨fun r => rch_frames ht.1 ht.2 r, fun r => rch_frames ht.symm.1 ht.symm.2 r⟩
  rcases h.2 _ _ _ e1 e2 with ⟨w1, w2⟩ | ⟨w1, w2⟩
  · rw [w1, w2, both]
  · rw [w1, w2, both]
    exact ⟨fun z y => z y.symm, fun z y => z y.symm⟩
theorem stemsTo_rising (ts : List Tie) (k : Nat) : (stemsTo ts k).Pairwise (· < ·) := (rng_rising k).filter _
theorem stemsTo_mem {ts : List Tie} {k : Nat} {i : Int} : i ∈ stemsTo ts k ↔ (0 ≤ i ∧ i < k) ∧ stemB ts i.toNat = true := by
  unfold stemsTo
  rw [List.mem_filter, mem_rng]
theorem stems_own (ts : List Tie) : stemsTo ((stemsTo ts ts.length).map fun i => tieN ts i.toNat) (stemsTo ts ts.length).length = rng (stemsTo ts ts.length).length := by
  generalize hS : stemsTo ts ts.length = S
  unfold stemsTo
  rw [List.filter_eq_self]
  intro j hj
  have jr := mem_rng.mp hj
  have hjl : j.toNat < S.length := by omega
  have ej : (S.map fun i => tieN ts i.toNat)[j.toNat]? = some (tieN ts S[j.toNat].toNat) := by
    rw [List.getElem?_map, List.getElem?_eq_getElem hjl]
    rfl
  have hm : S[j.toNat] ∈ stemsTo ts ts.length := by rw [hS]; exact List.getElem_mem _
  obtain ⟨⟨m0, m1⟩, mb⟩ := stemsTo_mem.mp hm
  have et : ts[S[j.toNat].toNat]? = some (tieN ts S[j.toNat].toNat) := by
    have h : S[j.toNat].toNat < ts.length := by omega
    rw [List.getElem?_eq_getElem h, tieN_of (List.getElem?_eq_getElem h)]
  rw [stem_iff ej]
  rw [stem_iff et] at mb
  refine fun r => mb (r.mono fun t ht => ?_)
  rw [← List.map_take, List.mem_map] at ht
  obtain ⟨x, hx, rfl⟩ := ht
  obtain ⟨a, ha, rfl⟩ := List.getElem_of_mem hx
  rw [List.length_take] at ha
  rw [List.getElem_take]
  have hx' : S[a] ∈ stemsTo ts ts.length := by rw [hS]; exact List.getElem_mem _
  obtain ⟨⟨x0, x1⟩, _⟩ := stemsTo_mem.mp hx'
  have rise : S.Pairwise (· < ·) := by rw [← hS]; exact stemsTo_rising _ _
  have lt : S[a] < S[j.toNat] := List.pairwise_iff_getElem.mp rise a j.toNat (by omega) hjl (by omega)
  have h : S[a].toNat < ts.length := by omega
  rw [tieN_of (List.getElem?_eq_getElem h)]
  rw [List.mem_iff_getElem]
  exact ⟨S[a].toNat, by rw [List.length_take]; omega, by rw [List.getElem_take]⟩
/-! ### neighbours, and what a walk has come to (mathematics) -/
abbrev Nb := Int × Bool
def nb1 (t : Tie) (i : Int) : List Nb := (if i = t.one then [(t.other, t.foe)] else []) ++ (if i = t.other then [(t.one, t.foe)] else [])
def nbs (ts : List Tie) (i : Int) : List Nb := ts.flatMap fun t => nb1 t i
theorem nbs_snoc (ts : List Tie) (t : Tie) (i : Int) : nbs (ts ++ [t]) i = nbs ts i ++ nb1 t i := by
  unfold nbs
  rw [List.flatMap_append]
  simp
theorem nb1_len (t : Tie) (i : Int) : (nb1 t i).length ≤ 2 := by
  unfold nb1
  rw [List.length_append]
  split <;> split <;> simp
theorem nbs_len (ts : List Tie) (i : Int) : (nbs ts i).length ≤ 2 * ts.length := by
  induction ts with
  | nil => simp [nbs]
  | cons t ts ih =>
    have h := nb1_len t i
    unfold nbs at ih ⊢
    rw [List.flatMap_cons, List.length_append, List.length_cons]
    omega
theorem mem_nbs {ts : List Tie} {i : Int} {p : Nb} : p ∈ nbs ts i ↔ Adj ts i p.1 p.2 := by
  unfold nbs Adj nb1
  rw [List.mem_flatMap]
  constructor
  · rintro ⟨t, ht, h⟩
    refine ⟨t, ht, ?_⟩
    rcases List.mem_append.mp h with h | h
    · split at h
      · rename_i e
        rw [List.mem_singleton] at h
        subst h
        exact ⟨rfl, .inl ⟨e.symm, rfl⟩⟩
      · simp at h
    · split at h
      · rename_i e
        rw [List.mem_singleton] at h
        subst h
        exact ⟨rfl, .inr ⟨rfl, e.symm⟩⟩
      · simp at h
  · rintro ⟨t, ht, e, h⟩
    refine ⟨t, ht, List.mem_append.mpr ?_⟩
    obtain ⟨p1, p2⟩ := p
    simp only at e h
    rcases h with ⟨h1, h2⟩ | ⟨h1, h2⟩
    · left
      rw [if_pos h1.symm, List.mem_singleton, ← e, ← h2]
    · right
      rw [if_pos h2.symm, List.mem_singleton, ← e, ← h1]
theorem pigeon : ∀ (n : Nat) (xs : List Int), xs.Nodup → (∀ x ∈ xs, 0 ≤ x ∧ x < n) → xs.length ≤ n
  | 0, xs, _, h => by
    cases xs with
    | nil => simp
    | cons x r =>
      have := h x (by simp)
      omega
  | n + 1, xs, nd, h => by
    have q := pigeon n (xs.erase (n : Int)) (nd.erase _) fun x hx => by
      have h1 := h x (List.mem_of_mem_erase hx)
      have h2 : x ≠ n := (List.Nodup.mem_erase_iff nd).mp hx |>.1
      omega
    have l := List.length_erase (a := (n : Int)) (l := xs)
    split at l
    · omega
    · omega
structure SF (ts : List Tie) (s : Int) (ks : List Nb) (wl ex : List Int) : Prop where
  nd : (ks.map (·.1)).Nodup
  rp : ∀ p ∈ ks, RP ts s p.1 p.2
  st : s ∈ ks.map (·.1)
  sub : ∀ x ∈ wl, x ∈ ks.map (·.1)
  le : wl.length ≤ ks.length
  cl : ∀ x ∈ ks.map (·.1), x ∉ wl → x ∉ ex → ∀ y k, Adj ts x y k → y ∈ ks.map (·.1)
theorem SF.keys {ts : List Tie} {s : Int} {ks : List Nb} {wl ex : List Int} (h : SF ts s ks wl ex) {x : Int} (hx : x ∈ ks.map (·.1)) : ∃ b, (x, b) ∈ ks ∧ RP ts s x b := by
  obtain ⟨p, hp, rfl⟩ := List.mem_map.mp hx
  exact ⟨p.2, hp, h.rp p hp⟩
theorem SF.few {ts : List Tie} {n : Nat} {s : Int} {ks : List Nb} {wl ex : List Int} (h : SF ts s ks wl ex) (ok : ∀ t ∈ ts, TieOk n t) (hs : 0 ≤ s ∧ s < n) : ks.length ≤ n := by
  have q := pigeon n (ks.map (·.1)) h.nd fun x hx => by
    obtain ⟨b, _, hb⟩ := h.keys hx
    exact Rch.rng ok hs ⟨b, hb⟩
  rw [List.length_map] at q
  exact q
theorem SF.all {ts : List Tie} {s : Int} {ks : List Nb} (h : SF ts s ks [] []) (z : Int) : z ∈ ks.map (·.1) ↔ Rch ts s z := by
  constructor
  · intro hz
    obtain ⟨b, _, hb⟩ := h.keys hz
    exact ⟨b, hb⟩
  · intro hz
    exact hz.ind (fun x => x ∈ ks.map (·.1)) h.st fun x y k hx ad => h.cl x hx (by simp) (by simp) y k ad
theorem SF.pop {ts : List Tie} {s p : Int} {ks : List Nb} {wl : List Int} (h : SF ts s ks (wl ++ [p]) []) : SF ts s ks wl [p] :=
  ⟨h.nd, h.rp, h.st, fun x hx => h.sub x (List.mem_append_left _ hx), by have := h.le; rw [List.length_append] at this; omega, fun x hx h1 h2 => h.cl x hx (fun z => by
    rcases List.mem_append.mp z with z | z
    · exact h1 z
    · exact h2 z) (by simp)⟩
theorem SF.push {ts : List Tie} {s p y : Int} {b f : Bool} {ks : List Nb} {wl : List Int} (h : SF ts s ks wl [p]) (hp : RP ts s p b) (ad : Adj ts p y f) (hy : y ∉ ks.map (·.1)) : SF ts s (ks ++ [(y, b ^^ f)]) (wl ++ [y]) [p] := by
  have em : (ks ++ [(y, b ^^ f)]).map (·.1) = ks.map (·.1) ++ [y] := by rw [List.map_append]; rfl
  refine ⟨?_, fun q hq => ?_, ?_, fun x hx => ?_, ?_, fun x hx h1 h2 z k hz => ?_⟩
  · rw [em, List.nodup_append]
    refine ⟨h.nd, by simp, fun x hx z hz e => ?_⟩
    rw [List.mem_singleton] at hz
    subst hz
    subst e
    exact hy hx
  · rcases List.mem_append.mp hq with q1 | q1
    · exact h.rp q q1
    · rw [List.mem_singleton] at q1
      subst q1
      exact hp.step ad
  · rw [em]
    exact List.mem_append_left _ h.st
  · rw [em]
    rcases List.mem_append.mp hx with q1 | q1
    · exact List.mem_append_left _ (h.sub x q1)
    · exact List.mem_append_right _ q1
  · rw [List.length_append, List.length_append]
    have := h.le
    simp
    omega
  · rw [em] at hx ⊢
    rcases List.mem_append.mp hx with q1 | q1
    · exact List.mem_append_left _ (h.cl x q1 (fun q2 => h1 (List.mem_append_left _ q2)) h2 z k hz)
    · exact absurd (List.mem_append_right _ q1) h1
theorem SF.done {ts : List Tie} {s p : Int} {ks : List Nb} {wl : List Int} (h : SF ts s ks wl [p]) (hp : ∀ q ∈ nbs ts p, q.1 ∈ ks.map (·.1)) : SF ts s ks wl [] :=
  ⟨h.nd, h.rp, h.st, h.sub, h.le, fun x hx h1 _ y k ad => by
    by_cases e : x = p
    · subst e
      exact hp (y, k) (mem_nbs.mpr ad)
    · exact h.cl x hx h1 (fun z => e (List.mem_singleton.mp z)) y k ad⟩
theorem room1 {k : Nat} {A : PySem.Around} (r : Room k A) : A.units + 1 < cLine := by have := r.un; omega
/-! ### the law: the least place that each comes to -/
def lf (f : Int → Int) (n : Nat) : List V := (rng n).map fun i => V.int (f i)
theorem lf_len (f : Int → Int) (n : Nat) : (lf f n).length = n := by unfold lf; rw [List.length_map, rng_length]
theorem lf_get? (f : Int → Int) {n j : Nat} (h : j < n) : (lf f n)[j]? = some (.int (f j)) := by
  unfold lf rng
  rw [List.map_map, List.getElem?_map, List.getElem?_range h]
  rfl
theorem lf_at (f : Int → Int) {n : Nat} {i : Int} (h0 : 0 ≤ i) (h1 : i < n) : atI (lf f n) i = some (.int (f i)) := by
  have e : ((i.toNat : Nat) : Int) = i := by omega
  refine atI_of h0 ?_
  rw [lf_get? f (by omega), e]
theorem lf_set (f : Int → Int) {n : Nat} {i y : Int} (h0 : 0 ≤ i) (h1 : i < n) : (lf f n).set i.toNat (.int y) = lf (fun x => if x = i then y else f x) n := by
  refine List.ext_getElem? fun j => ?_
  rw [List.getElem?_set]
  by_cases hj : j < n
  · by_cases e : i.toNat = j
    · rw [if_pos e, if_pos (by rw [lf_len]; omega), lf_get? _ hj, if_pos (by omega)]
    · rw [if_neg e, lf_get? _ hj, lf_get? _ hj, if_neg (by omega)]
  · have e : i.toNat ≠ j := by omega
    rw [if_neg e, List.getElem?_eq_none (by rw [lf_len]; omega), List.getElem?_eq_none (by rw [lf_len]; omega)]
theorem ixN_of {n : Nat} {i : Int} (h0 : 0 ≤ i) (h1 : i < n) : ixN n i = some i.toNat := by
  unfold ixN
  rw [if_pos (by omega), if_pos (by omega)]
/-! ### enumerate of a tuple -/
set_option maxHeartbeats 1000000 in
theorem meets_enumOne {v : Value} {o : Obj} {S : Heap → Prop} (B : Begins v o S) : Meets (Builtin.«enumerate.__new__» ⟨[.type "enumerate", v], []⟩) (fun _ R s => S s.heap ∧
      R (.ok (.ret (.ref (s.heap.push o).objs.size))) { s with heap := (s.heap.push o).push { cls := .type "enumerate", data := .fields #[.none, .bool false, .ref s.heap.objs.size, rawInt 0, .none, .none] } }) :=
  .of_wp fun prog w A R s h => by
    obtain ⟨hp, g, d, tk, os⟩ := s
    obtain ⟨h1, h⟩ := h
    have sub0 := sub_enumerate
    have begun : ∀ {A' : PySem.Around} {E : Value → Shared → Prop} {Q : Value → Shared → Prop}, Q (.ref hp.objs.size) ⟨hp.push o, g, d, tk, os⟩ → wpAny (model prog w) A' (pyIter v) Q E ⟨hp, g, d, tk, os⟩ := fun q => B.iter prog w _ _ ⟨hp, g, d, tk, os⟩ _ h1 q
    wp_walk using begun
    refine wpAny_stack_any fun st => wpAny_pure ?_
    split
    · rename_i c _ _ _ _ _
      cases (c == Value.type "enumerate")
      all_goals
        wp_walk using begun
        exact ⟨_, rfl, h⟩
    · wp_walk using begun
      exact ⟨_, rfl, h⟩
theorem call_enumT {P : Program} {w : World} {A : PySem.Around} {E : Value → Shared → Prop} {s : Shared} {t : Addr} {items : Array Value} {Q : Value → Shared → Prop} (ht : s.heap.IsTuple t items)
    (h : ∀ h', IsEnum h' (s.heap.objs.size + 1) s.heap.objs.size 0 .none → h'.IsTupleIter s.heap.objs.size t 0 → (∀ b o, s.heap.get? b = some o → h'.get? b = some o) → Q (.ref (s.heap.objs.size + 1)) { s with heap := h' }) : wpAny (model P w) A (call (.type "enumerate") [.ref t]) Q E s := by
  refine callType_new PySem.F.called_enumerate (by decide) (PySem.F.typeCall_enumerate_1 _) (PySem.F.newCall_enumerate_1 _) (fun ob => PySem.F.args_object_init_2 ob _) PySem.F.entry_enumerate_new (meets_enumOne (begins_tuple t items)) ⟨ht, ?_⟩
  have size1 := Heap.size_push s.heap { cls := .type "tuple_iterator", data := .fields #[.ref t, .int 0 0] }
  have en := Heap.get?_push_size (s.heap.push { cls := .type "tuple_iterator", data := .fields #[.ref t, .int 0 0] }) (o := { cls := .type "enumerate", data := .fields #[.none, .bool false, .ref s.heap.objs.size, rawInt 0, .none, .none] }) rfl
  rw [size1] at en
  show _ ∧ _
  rw [size1]
  exact ⟨⟨_, en, rfl⟩, h _ en ⟨_, Heap.get?_push_of_some _ (Heap.get?_push_size _ rfl), rfl, rfl⟩ fun b o e => Heap.get?_push_of_some _ (Heap.get?_push_of_some _ e)⟩
/-- the turns: a new pair each, of the number and the part -/
def ItN (K : PySem.W.Frag) (a : Addr) : It where
  go := fun i H => ∃ (xs : List V) (x : V), SqT K H a xs ∧ xs[i]? = some x
  yld := fun i H v H' => ∃ T x, v = .ref T ∧ H T = none ∧ H' = upd H T (.tup [.int (i : Nat), x]) ∧ ∀ xs, SqT K H a xs → xs[i]? = some x
  stop := fun i H => ∃ xs : List V, SqT K H a xs ∧ xs.length ≤ i
theorem turn_enumT {P : Program} {w : World} {K : PySem.W.Frag} {elts : List Expr} {kk : Nat} {tpos : Pos} (a e it : Addr) (n1 : e ≠ it) (n2 : a ≠ it) (n3 : e ≠ a) :
    Turn P w K (.Tuple elts kk tpos) (ItN K a) [e, it] e (fun i h => (∃ old, IsEnum h e it ((i : Nat) : Int) old) ∧ h.IsTupleIter it a i) where
  mem := List.mem_cons_self
  obj := by
    rintro i h ⟨⟨old, he⟩, o, ho, hc, hd⟩ b hb
    rcases List.mem_cons.mp hb with rfl | hb
    · exact ⟨_, he, fun v q => nomatch q⟩
    · rw [List.mem_singleton.mp hb]
      exact ⟨o, ho, fun v q => by rw [hd] at q; cases q⟩
  keep := by
    rintro i h h' ⟨⟨old, he⟩, hit⟩ kp
    exact ⟨⟨old, kp e (by simp) _ he⟩, hit.at fun o q => kp it (by simp) o q⟩
  item := by
    intro X hP hw hK hc i pins s σ H E I hf st hg
    subst hP hw hK
    obtain ⟨⟨old, he⟩, hit⟩ := st
    obtain ⟨xs, x, hq, hx⟩ := hg
    obtain ⟨its, rv, tup, _⟩ := I.tuple hq
    obtain ⟨u, hu, ru⟩ := rv.get hx
    have le := Heap.lt_size he
    have li : it < s.heap.objs.size := let ⟨_, q, _⟩ := hit; Heap.lt_size q
    have lt : i < its.toArray.size := by simpa using (List.getElem?_eq_some_iff.mp hu).1
    refine wpAny_pyNext_enum_itemD (Draws.tuple (A := X.A.in1) (I.ok.hd hc) it a n2 its.toArray) he ⟨hit, tup⟩ lt n1 (by simp [n1, n3]) fun x' h' tk ex out st' new _ kp => ?_
    obtain rfl : u = x' := Option.some.inj (((by simpa using hu) : its.toArray[i]? = some u).symm.trans ex)
    refine ⟨_, rfl, wpAny_letOwnedTupleGo_enum (s := { s with heap := h', toks := tk + 1 }) out fun h2 he2 sb => ?_⟩
    have new2 : h2.get? s.heap.objs.size = some { cls := .type "tuple", data := .seq #[.int i tk, u] } := (sb.2 _ (Nat.ne_of_gt le)).trans new
    have objT : ObjOk X.prog X.w (upd H s.heap.objs.size (.tup [.int (i : Nat), x])) h2 s.heap.objs.size (.tup [.int (i : Nat), x]) := ⟨by show 2 ≤ sizeLine; decide, [.int i tk, u], .cons ⟨_, rfl⟩ (.cons ru .nil), ⟨_, new2, rfl, _, rfl⟩⟩
    have J : Inv X pins σ (upd H s.heap.objs.size (.tup [.int (i : Nat), x])) { s with heap := h2, toks := tk + 1 } := I.turnedNew (ch := [e, it]) (fun b ob hb q => by
      simp only [List.mem_cons, List.not_mem_nil, or_false, not_or] at hb
      exact (sb.2 b hb.1).trans (kp b ob hb.1 hb.2 q)) hf (Nat.le_refl _) objT
    refine ⟨.ref s.heap.objs.size, _, J, rfl, ⟨_, x, rfl, I.hok.fresh (Nat.le_refl _), rfl, fun ys hy => by rw [I.tuple_inj hy hq]; exact hx⟩, ⟨⟨u, ?_⟩, st'.1.at fun o q => (sb.2 it (Ne.symm n1)).trans q⟩, fun b hb => ?_⟩
    · rw [show ((i + 1 : Nat) : Int) = (i : Int) + 1 from by omega]
      exact he2
    · have lb : b < s.heap.objs.size := by
        rcases List.mem_cons.mp hb with rfl | hb
        · exact le
        · rw [List.mem_singleton.mp hb]
          exact li
      rw [upd_ne (Nat.ne_of_lt lb)]
      exact (hf b hb).1
  done := by
    intro X hP hw hK hc i pins s σ H E I hf st hg
    subst hP hw hK
    obtain ⟨⟨old, he⟩, hit⟩ := st
    obtain ⟨xs, hq, hx⟩ := hg
    obtain ⟨its, rv, tup, _⟩ := I.tuple hq
    have hl := rv.length
    obtain ⟨f0, f1, f2, f3, f4, f5⟩ := hf it (by simp)
    have D : Draws X.prog X.w X.A.in1 it [it, a] i (fun _ _ => False) (fun j h => j = i ∧ h.IsTupleIter it a i ∧ h.IsTuple a its.toArray) := {
      live := fun j h z => let ⟨_, ⟨o, q, _⟩, _⟩ := z; ⟨o, q⟩
      frame := fun j h h' z kp => ⟨z.1, z.2.1.at fun o q => kp it (by simp) o q, z.2.2.at fun o q => kp a (by simp) o q⟩
      item := fun j s' Q E' hj z => absurd z.1 (Nat.ne_of_lt hj)
      done := fun s' Q E' z fin => wpAny_nextOf_tuple_end (I.ok.hd hc) z.2.1 z.2.2 (by simp; omega) fin }
    exact wpAny_pyNext_enum_endD D he ⟨rfl, hit, tup⟩ fun h' eb => ⟨rfl, I.turned (t' := s.toks) (fun b o hb q => eb b o hb q) f0 f1 f3 f4 f5⟩
  self := fun A i s Q E st h => let ⟨⟨_, he⟩, _⟩ := st; wpAny_pyIter_enum he h
def iEnT (K : PySem.W.Frag) (ta : TA) : TI := fun σ H R => ta σ H fun vs H1 => ∃ a xs, vs = [.ref a] ∧ SqT K H1 a xs ∧ R (ItN K a) H1
theorem pi_enumT {X : Cx} {e : Expr} {ta : TA} {p pos tpos : Pos} {elts : List Expr} {kk : Nat} (hg : Gl X "enumerate") (hm : X.mg "enumerate" = none) (ha : PA X [e] ta) (hs : starEach [e] X.env = [(false, eval e X.env)] := by rfl) :
    PI X (.Tuple elts kk tpos) (.Call (.Name "enumerate" p) [e] [] pos) (iEnT X.K ta) := by
  refine ⟨fun pins s σ H R I want => Call_ (ld_blt I hg hm boot_enumerate (PyProof.Rows.callWith_type1 (thn (ha.run pos pins s σ H _ I want) fun us s1 got => ?_) hs rfl))⟩
  obtain ⟨vs, H1, J, rel, a, xs, ex, hq, q⟩ := got
  subst ex
  obtain ⟨u, eu, r1⟩ := vals1 rel
  subst eu
  obtain rfl : u = Value.ref a := r1
  obtain ⟨its, rv, tup, _⟩ := J.tuple hq
  have la : a < s1.heap.objs.size := let ⟨_, q, _⟩ := tup; Heap.lt_size q
  refine call_enumT (items := its.toArray) tup fun h' he hit kp => wpAny_pyIter_enum he ?_
  have J2 : Inv X pins σ H1 { s1 with heap := h' } := J.kept (t' := s1.toks) kp
  refine ⟨s1.heap.objs.size + 1, [s1.heap.objs.size + 1, s1.heap.objs.size], _, _, H1, rfl, J2, turn_enumT a (s1.heap.objs.size + 1) s1.heap.objs.size (Nat.succ_ne_self _) (Nat.ne_of_lt la) (Nat.ne_of_gt (Nat.lt_succ_of_lt la)), ⟨⟨.none, he⟩, hit⟩, fun b hb => ?_, q⟩
  have lb : s1.heap.objs.size ≤ b := by
    rcases List.mem_cons.mp hb with rfl | hb
    · exact Nat.le_succ _
    · rw [List.mem_singleton.mp hb]
      exact Nat.le_refl _
  exact J.fpOk lb (J.hok.fresh lb)
theorem walk_enumT {K : PySem.W.Frag} {a : Addr} {xs : List V} : Walk (ItN K a) xs.length (fun H => SqT K H a xs) (YPair (fun i => some (.int (i : Nat))) (fun i => xs[i]?)) :=
  ⟨fun i H hi h => ⟨xs, xs[i], h, List.getElem?_eq_getElem hi⟩, fun H h => ⟨xs, h, Nat.le_refl _⟩, fun i H x H' hi h y => by
    obtain ⟨T, z, e1, e2, e3, e4⟩ := y
    exact ⟨T, _, z, e1, e2, e3, rfl, e4 xs h⟩⟩
/-! ### flats: the deck -/
def FDk (H : Hp) (d : Addr) : Prop := ∃ ns : List Int, H d = some (.lst (ns.map V.int)) ∧ ns.length ≤ 800
theorem FDk.same {H H' : Hp} {d : Addr} (h : FDk H d) (s : Same H H') : FDk H' d := by
  obtain ⟨ns, h1, h2⟩ := h
  exact ⟨ns, s _ _ h1, h2⟩
theorem FDk.kp {H H' : Hp} {d e : Addr} (h : FDk H d) (k : Kp e e H H') (ne : d ≠ e) : FDk H' d := by
  obtain ⟨ns, h1, h2⟩ := h
  exact ⟨ns, k _ _ ne ne h1, h2⟩
theorem FDk.ned {H : Hp} {d p : Addr} (h : FDk H d) (np : H p = none) : p ≠ d := by
  obtain ⟨ns, h1, h2⟩ := h
  exact (ne_of_none h1 np).symm
theorem FDk.tk {H H' : Hp} {d : Addr} (h : FDk H d) (k : Kp d d H H') : Tk H H' := fun a xs e => by
  obtain ⟨ns, h1, h2⟩ := h
  have : a ≠ d := fun z => by rw [z, h1] at e; cases e
  exact k _ _ this this e
theorem cutV_ints (ns : List Int) (lo hi : Option Int) : ∃ ms : List Int, cutV (ns.map V.int) lo hi = ms.map V.int ∧ ms.length ≤ ns.length := by
  refine ⟨(ns.drop (HT.sIx ns.length 0 lo)).take (HT.sIx ns.length ns.length hi - HT.sIx ns.length 0 lo), ?_, ?_⟩
  · unfold cutV
    rw [List.length_map, List.map_take, List.map_drop]
  · rw [List.length_take, List.length_drop]
    omega
def spMixed : Sp := fun vs H Q _ => ∃ a : Int, vs = [.int a] ∧ ∀ r, 0 ≤ r → r < 2147483587 → Q (.int r) H
def spDeckF (K : PySem.W.Frag) : Sp := fun vs H Q _ => ∃ (a : Addr) (ns : List Int), vs = [.ref a] ∧ SqL K H a (ns.map V.int) ∧ ns.length ≤ 63 ∧
  ∀ d H', Same H H' → H d = none → FDk H' d → Q (.ref d) H'
def spTake : Sp := fun vs H Q _ => ∃ (d : Addr) (m : Int), vs = [.ref d, .int m] ∧ FDk H d ∧ 0 < m ∧ m < 2 ^ 62 ∧ ∀ v H', 0 ≤ v → v < m → FDk H' d → Kp d d H H' → Q (.int v) H'
section
variable {P : Program} {w : World} {K : PySem.W.Frag} {mg : Str → Option Value} {base : Heap}
theorem ok_l_mixed {f : Addr} {fd : FuncData} (F : Fun K "_law_mixed" "_law_mixed" s_l_mixed f fd)  : FnOk P w K mg base CX0 1 f fd ["_law_number"] spMixed := by
  refine F.ok sc_l_mixed (fun vs H Q E h => ?_) (fun cdv A outer s H vs Q E hr h => ?_)
  · obtain ⟨a, rfl, _⟩ := h
    rfl
  · obtain ⟨a, rfl, q⟩ := h
    refine ⟨_, (pss_cons (ps_set (i := 0) sc_l_mixed.nd rfl (.inl rfl) (pe_op op_mod (pe_op op_add (pe_op op_mul (pe_op op_mod (pv 0) pe_int) pe_int) pe_int) pe_int))
      (pss_cons (ps_set (i := 0) sc_l_mixed.nd rfl (.inl rfl) (pe_op op_mod (pe_op op_add (pe_op op_add (pe_op op_mul (pv 0) (pv 0)) (pe_op op_mul pe_int (pv 0))) pe_int) pe_int))
      (pss_one (ps_ret (pe_op op_mod (pe_op op_add (pe_op op_mul (pv 0) pe_int) pe_int) pe_int))))), ?_⟩
    refine ⟨.int a, rfl, a, _, rfl, rfl, show (0 : Int) < 2147483629 by decide, _, _, rfl, rfl, .inr ⟨by decide, by decide⟩, _, _, rfl, rfl, _, _, rfl, rfl, show (0 : Int) < 2147483647 by decide, ?_⟩
    have r1 := mod_rng (a := a % 2147483629 * 48271 + 7) (m := 2147483647) (by decide)
    refine ⟨_, rfl, _, rfl, (a % 2147483629 * 48271 + 7) % 2147483647, (a % 2147483629 * 48271 + 7) % 2147483647, rfl, rfl, .inr ⟨by omega, by omega⟩, _, rfl, _, (a % 2147483629 * 48271 + 7) % 2147483647, rfl, rfl, .inr ⟨by omega, by omega⟩, _, _, rfl, rfl, _, _, rfl, rfl, _, _, rfl, rfl, show (0 : Int) < 2147483629 by decide, ?_⟩
    refine ⟨.int _, rfl, _, _, rfl, rfl, .inr ⟨by decide, by decide⟩, _, _, rfl, rfl, _, _, rfl, rfl, show (0 : Int) < 2147483587 by decide, ?_⟩
    exact q _ (mod_rng (by decide)).1 (mod_rng (by decide)).2
theorem ok_l_deck {f : Addr} {fd : FuncData} (F : Fun K "_law_deck" "_law_deck" s_l_deck f fd) (M : Free mg) (D_l_mixed : Df P w K mg base 1 "_law_mixed" ["_law_number"] spMixed) : FnOk P w K mg base CX0 2 f fd ["_law_script"] (spDeckF K) := by
  obtain ⟨f_l_mixed, fd_l_mixed, G_l_mixed, g_l_mixed, k_l_mixed, b_l_mixed⟩ := D_l_mixed
  refine F.ok sc_l_deck (fun vs H Q E h => ?_) (fun cdv A outer s H vs Q E hr h => ?_)
  · obtain ⟨a, ns, rfl, _⟩ := h
    rfl
  · obtain ⟨a, ns, rfl, hS, hl, q⟩ := h
    refine ⟨_, (pss_cons (ps_set (i := 1) sc_l_deck.nd rfl (.inl rfl) (pe_callTy call_list_of (by rfl) M.list (by decide +kernel) (pa_cons (pe_slice sl_list (pv 0) po_none (po_some pe_int)) pa_nil)))
      (pss_cons (ps_set (i := 2) sc_l_deck.nd rfl (.inl rfl) (pe_op op_add pe_int (pe_op op_mod (pe_callB (cr_sum rfl) (by rfl) M.sum (by decide +kernel) (pa_cons (pv 1) pa_nil)) pe_int)))
      (pss_cons (ps_for PassesOwn.never rfl (pi_range1 (by rfl) M.range (pa_cons pe_int pa_nil)) (pg_name (i := 3) sc_l_deck.nd rfl (.inl rfl))
        (pss_cons (ps_set (i := 2) sc_l_deck.nd rfl (.inl rfl) (pe_call G_l_mixed (hr.mono (by decide)) (by rfl) g_l_mixed k_l_mixed b_l_mixed .nil pass0 (pa_cons (pe_op op_add (pv 2) (pv 3)) pa_nil)))
        (pss_one (ps_if (pt_cmpR op_gt (pv 3) pe_int (nomark _))
          (pss_one (ps_expr (pe_bm PySem.F.plainAttrs_list PySem.F.slot_list_append PySem.F.type_list_append mt_append (pv 1) (pa_cons (pv 2) pa_nil))))
          pss_nil))))
      (pss_one (ps_ret (pe_revL (pv 1))))))), ?_⟩
    obtain ⟨ms, em, lm⟩ := cutV_ints ns none (some 63)
    refine ⟨.ref a, rfl, 63, rfl, a, _, rfl, hS, fun p1 n1 => ⟨p1, _, rfl, .inl (SqL.of upd_same), fun p2 n2 => ?_⟩⟩
    rw [em] at n2 ⊢
    have s1 : Same H (upd H p1 (.lst (ms.map V.int))) := same_new n1
    have s2 := s1.trans (same_new (o := .lst (ms.map V.int)) n2)
    have h2 : (upd (upd H p1 (.lst (ms.map V.int))) p2 (.lst (ms.map V.int))) p2 = some (.lst (ms.map V.int)) := upd_same
    have f2 : H p2 = none := s1.free n2
    generalize upd (upd H p1 (.lst (ms.map V.int))) p2 (.lst (ms.map V.int)) = H2 at s2 h2
    refine ⟨.ref p2, rfl, p2, ms, rfl, SqL.of h2, _, _, rfl, rfl, show (0 : Int) < 2147483647 by decide, _, _, rfl, rfl, ?_⟩
    refine ⟨700, rfl, by decide, by decide, ?_⟩
    refine for_range (lo := 0) (n := 700) (fun i σ' H' => ∃ (x : Int) (y3 : Option V) (ks : List Int), σ' = [some (.ref a), some (.ref p2), some (.int x), y3] ∧ H' p2 = some (.lst (ks.map V.int)) ∧ ks.length ≤ 63 + i ∧ Same H H') ⟨_, none, ms, rfl, h2, by omega, s2⟩ ?_ ?_
    · rintro i σ' H3 hi ⟨x, y3, ks, rfl, h3, l3, s3⟩
      refine ⟨.int x, rfl, .int (0 + (i : Nat)), rfl, _, _, rfl, rfl, _, rfl, fun r r0 r1 => ?_⟩
      refine ⟨.int (0 + (i : Nat)), rfl, _, _, rfl, rfl, _, rfl, ?_⟩
      refine ite2 (fun _ => ?_) (fun _ => ⟨_, _, ks, rfl, h3, by omega, s3⟩)
      refine ⟨.ref p2, rfl, .inl ⟨rfl, _, SqL.of h3⟩, .int r, rfl, p2, _, _, rfl, rfl, h3, small1000 (by rw [List.length_map]; omega), ?_⟩
      exact ⟨_, _, ks ++ [r], rfl, by rw [upd_same, List.map_append]; rfl, by rw [List.length_append]; show _ + 1 ≤ _; omega, Same.mut s3 f2⟩
    · rintro σ' H3 ⟨x, y3, ks, rfl, h3, l3, s3⟩
      refine ⟨.ref p2, rfl, p2, _, rfl, SqL.of h3, fun D nD => ?_⟩
      refine q D _ (s3.trans (same_new nD)) (s3.free nD) ⟨ks.reverse, by rw [upd_same, List.map_reverse], by rw [List.length_reverse]; omega⟩
theorem ok_l_take {f : Addr} {fd : FuncData} (F : Fun K "_law_take" "_law_take" s_l_take f fd) (D_l_mixed : Df P w K mg base 1 "_law_mixed" ["_law_number"] spMixed) : FnOk P w K mg base CX0 2 f fd ["_law_deck_here", "_law_most"] spTake := by
  obtain ⟨f_l_mixed, fd_l_mixed, G_l_mixed, g_l_mixed, k_l_mixed, b_l_mixed⟩ := D_l_mixed
  refine F.ok sc_l_take (fun vs H Q E h => ?_) (fun cdv A outer s H vs Q E hr h => ?_)
  · obtain ⟨d, m, rfl, _⟩ := h
    rfl
  · obtain ⟨d, m, rfl, hD, m0, m1, q⟩ := h
    refine ⟨_, (pss_cons (ps_if (pt_cmpR (op_eqE hr.units0) (pv 0) (pe_lst pa_nil) (nomark _))
        (pss_one (ps_ret pe_int))
        pss_nil)
      (pss_cons (ps_set (i := 2) sc_l_take.nd rfl (.inl rfl) (pe_bm0 PySem.F.plainAttrs_list PySem.F.slot_list_pop PySem.F.type_list_pop mt_pop (pv 0)))
      (pss_cons (ps_if (pt_cmpR op_ge (pv 2) (pe_op op_pow pe_int pe_int) (nomark _))
        (pss_cons (ps_expr (pe_bm PySem.F.plainAttrs_list PySem.F.slot_list_append PySem.F.type_list_append mt_append (pv 0) (pa_cons (pe_op op_fdivW (pv 2) (pv 1)) pa_nil)))
        (pss_one (ps_ret (pe_op op_mod (pv 2) (pv 1)))))
        pss_nil)
      (pss_one (ps_ret (pe_op op_mod (pe_op op_fdiv (pe_call G_l_mixed (hr.mono (by decide)) (by rfl) g_l_mixed k_l_mixed b_l_mixed .nil pass0 (pa_cons (pv 2) pa_nil)) pe_int) (pv 1))))))), ?_⟩
    obtain ⟨ns, hd, ln⟩ := hD
    refine ⟨.ref d, rfl, Nat.zero_le _, fun Z nZ => ⟨d, Z, _, rfl, rfl, SqL.of (same_new nZ _ _ hd), SqL.of upd_same, _, rfl, ?_⟩⟩
    have sZ := same_new (o := .lst []) nZ
    have hd1 := sZ _ _ hd
    generalize upd H Z (.lst []) = H1 at sZ hd1
    by_cases e : ns = []
    · subst e
      exact q 0 _ (by decide) m0 ⟨[], hd1, by simp⟩ (Same.kp sZ)
    · rw [show (ns.map V.int).isEmpty = false from by cases ns; exact absurd rfl e; rfl]
      have lpos := List.length_pos_iff.mpr e
      obtain ⟨c, ec⟩ : ∃ c, ns[ns.length - 1]? = some c := ⟨_, List.getElem?_eq_getElem (by omega)⟩
      refine ⟨.ref d, rfl, .inl ⟨rfl, _, SqL.of hd1⟩, d, _, .int c, rfl, rfl, hd1, by rw [List.length_map, List.getElem?_map, ec]; rfl, ?_⟩
      have hd2 : (upd H1 d (.lst (ns.map V.int).dropLast)) d = some (.lst (ns.dropLast.map V.int)) := by rw [upd_same, List.map_dropLast]
      have K2 : Kp d d H (upd H1 d (.lst (ns.map V.int).dropLast)) := (Same.kp sZ).trans Kp.at_d
      have l2 : ns.dropLast.length ≤ 799 := by rw [List.length_dropLast]; omega
      generalize upd H1 d (.lst (ns.map V.int).dropLast) = H2 at hd2 K2
      refine ⟨.int c, rfl, 10, 18, rfl, rfl, ⟨by decide, by decide, by decide⟩, _, _, rfl, rfl, _, rfl, ?_⟩
      refine ite2 (fun _ => ?_) (fun _ => ?_)
      · refine ⟨.ref d, rfl, .inl ⟨rfl, _, SqL.of hd2⟩, .int c, rfl, .int m, rfl, _, _, rfl, rfl, ⟨m0, ?_⟩, d, _, _, rfl, rfl, hd2, small1000 (by rw [List.length_map]; omega), ?_⟩
        · have h1 : m.natAbs < 2 ^ 62 := by omega
          have h2 := (Nat.log2_lt (n := m.natAbs) (k := 62) (by omega)).mpr h1
          omega
        · refine ⟨.int c, rfl, .int m, rfl, _, _, rfl, rfl, m0, ?_⟩
          exact q _ _ (mod_rng m0).1 (mod_rng m0).2 ⟨ns.dropLast ++ [c / m], by rw [upd_same, List.map_append]; rfl, by rw [List.length_append]; show _ + 1 ≤ _; omega⟩ (K2.trans Kp.at_d)
      · refine ⟨.int c, rfl, c, rfl, fun r r0 r1 => ⟨_, _, rfl, rfl, ⟨by decide, by decide⟩, .int m, rfl, _, _, rfl, rfl, m0, ?_⟩⟩
        exact q _ _ (mod_rng m0).1 (mod_rng m0).2 ⟨_, hd2, by omega⟩ K2
end
/-! ### flats: orders of ties; _law_corners -/
def PrV (H : Hp) (v : V) (q : Int × Int) : Prop := ∃ a, v = .ref a ∧ H a = some (.tup [.int q.1, .int q.2])
theorem PrV.tk {H H' : Hp} (k : Tk H H') {v : V} {p : Int × Int} (h : PrV H v p) : PrV H' v p := by
  obtain ⟨a, e, h⟩ := h
  exact ⟨a, e, k _ _ h⟩
theorem pr_tk {H H' : Hp} (k : Tk H H') {vs : List V} {qs : List (Int × Int)} (h : Paired (PrV H) vs qs) : Paired (PrV H') vs qs := Paired.mono (fun _ _ x => x.tk k) h
structure Rw (H : Hp) (A : List Addr) (rs : List (List Int)) : Prop where
  nd : A.Nodup
  len : A.length = rs.length
  each : ∀ (j : Nat) (a : Addr), A[j]? = some a → ∃ row, rs[j]? = some row ∧ H a = some (.lst (row.map V.int))
theorem Rw.ext {H H' : Hp} {A : List Addr} {rs : List (List Int)} (h : Rw H A rs) (k : ∀ a ∈ A, ∀ x, H a = some x → H' a = some x) : Rw H' A rs :=
  ⟨h.nd, h.len, fun j a e => by
    obtain ⟨row, e1, e2⟩ := h.each j a e
    exact ⟨row, e1, k a (List.mem_of_getElem? e) _ e2⟩⟩
theorem Rw.more {H : Hp} {p : Addr} {A : List Addr} {rs : List (List Int)} (h : Rw H A rs) (np : H p = none) (row : List Int) : Rw (upd H p (.lst (row.map V.int))) (A ++ [p]) (rs ++ [row]) := by
  have no : p ∉ A := fun z => by
    obtain ⟨j, e⟩ := List.getElem?_of_mem z
    obtain ⟨row, _, e2⟩ := h.each j p e
    rw [np] at e2
    cases e2
  have l := h.len
  refine ⟨List.nodup_append.mpr ⟨h.nd, by simp, fun a ha b hb e => no (by rw [List.mem_singleton.mp hb] at e; exact e ▸ ha)⟩, by simp [l], fun j a e => ?_⟩
  by_cases hj : j < A.length
  · rw [List.getElem?_append_left hj] at e
    obtain ⟨r, e1, e2⟩ := h.each j a e
    exact ⟨r, by rw [List.getElem?_append_left (by omega)]; exact e1, by rw [upd_ne (show a ≠ p from fun z => no (z ▸ List.mem_of_getElem? e))]; exact e2⟩
  · rw [List.getElem?_append_right (by omega)] at e
    have hj2 : j - A.length = 0 := by
      have := (List.getElem?_eq_some_iff.mp e).1
      simp at this
      omega
    rw [hj2] at e
    cases e
    exact ⟨row, by rw [List.getElem?_append_right (by omega), show j - rs.length = 0 by omega]; rfl, upd_same⟩
theorem Rw.put {H : Hp} {a : Addr} {j : Nat} {A : List Addr} {rs : List (List Int)} (h : Rw H A rs) (e : A[j]? = some a) (row : List Int) : Rw (upd H a (.lst (row.map V.int))) A (rs.set j row) := by
  have l := h.len
  refine ⟨h.nd, by simp [l], fun i b eb => ?_⟩
  have hj := (List.getElem?_eq_some_iff.mp e).1
  by_cases ij : j = i
  · subst ij
    rw [e] at eb
    cases eb
    exact ⟨row, by rw [List.getElem?_set_self (by omega)], upd_same⟩
  · obtain ⟨r, e1, e2⟩ := h.each i b eb
    refine ⟨r, by rw [List.getElem?_set_ne ij]; exact e1, ?_⟩
    have hi := (List.getElem?_eq_some_iff.mp eb).1
    rw [upd_ne (fun z => ij ?_)]
    · exact e2
    · have e' := (List.getElem?_eq_some_iff.mp e).2
      have eb' := (List.getElem?_eq_some_iff.mp eb).2
      refine Classical.byContradiction fun ne => ?_
      rcases Nat.lt_or_gt_of_ne ne with lt | lt
      · exact List.pairwise_iff_getElem.mp h.nd j i hj hi lt (by rw [e', eb', z])
      · exact List.pairwise_iff_getElem.mp h.nd i j hi hj lt (by rw [e', eb', z])
/-- rows of tie numbers: each tie in the rows of its two ends, once, and nowhere else -/
structure Ord (rs : List (List Int)) (es : List (Int × Int)) : Prop where
  ends : ∀ e ∈ es, (0 ≤ e.1 ∧ e.1 < (rs.length : Int)) ∧ (0 ≤ e.2 ∧ e.2 < (rs.length : Int)) ∧ e.1 ≠ e.2
  nd : ∀ row ∈ rs, row.Nodup
  mem : ∀ (p : Nat) (row : List Int), rs[p]? = some row → ∀ x : Int, x ∈ row ↔ ∃ (k : Nat) (e : Int × Int), x = (k : Int) ∧ es[k]? = some e ∧ (e.1 = (p : Int) ∨ e.2 = (p : Int))
theorem Ord.row_in {rs : List (List Int)} {es : List (Int × Int)} (h : Ord rs es) {row : List Int} (hr : row ∈ rs) : ∀ x ∈ row, 0 ≤ x ∧ x < (es.length : Int) := fun x hx => by
  obtain ⟨p, hp⟩ := List.getElem?_of_mem hr
  obtain ⟨k, e, rfl, ek, _⟩ := (h.mem p row hp x).mp hx
  have := (List.getElem?_eq_some_iff.mp ek).1
  omega
theorem Ord.row_len {rs : List (List Int)} {es : List (Int × Int)} (h : Ord rs es) {row : List Int} (hr : row ∈ rs) : row.length ≤ es.length :=
  pigeon es.length row (h.nd row hr) (h.row_in hr)
def spCorners : Sp := fun vs H Q _ => ∃ (T O : Addr) (p0 at0 : Int) (us : List V) (es : List (Int × Int)) (A : List Addr) (rs : List (List Int)), vs = [.ref T, .ref O, .int p0, .int at0] ∧ H T = some (.lst us) ∧ Paired (PrV H) us es ∧ H O = some (.lst (A.map V.ref)) ∧ Rw H A rs ∧ Ord rs es ∧ rs.length ≤ 200 ∧ es.length ≤ 200 ∧ (0 ≤ p0 ∧ p0 < (rs.length : Int)) ∧ (0 ≤ at0 ∧ at0 ≤ 1000) ∧
  ∀ L ws cs H', Same H H' → H L = none → H' L = some (.lst ws) → Paired (PrV H') ws cs → (∀ c ∈ cs, (0 ≤ c.1 ∧ c.1 < (rs.length : Int)) ∧ (0 ≤ c.2 ∧ c.2 ≤ 1000)) → cs.length ≤ 402 → Q (.ref L) H'
theorem in_flat (xs : List Int) : (xs.map V.int).all flatV = true := by
  rw [List.all_map, List.all_eq_true]
  intro x _
  rfl
section
variable {P : Program} {w : World} {K : PySem.W.Frag} {mg : Str → Option Value} {base : Heap}
set_option maxHeartbeats 2000000 in
theorem ok_l_corners {f : Addr} {fd : FuncData} (F : Fun K "_law_corners" "_law_corners" s_l_corners f fd) (M : Free mg) : FnOk P w K mg base CX0 1 f fd ["_law_ties", "_law_orders", "_law_place", "_law_at"] spCorners := by
  refine F.ok sc_l_corners (fun vs H Q E h => ?_) (fun cdv A outer s H vs Q E hr h => ?_)
  · obtain ⟨T, O, p0, at0, us, es, A, rs, rfl, _⟩ := h
    rfl
  · obtain ⟨T, O, p0, at0, us, es, A, rs, rfl, hT, hu, hO, hA, or_, nr, ne, hp0, ha0, q⟩ := h
    refine ⟨_, (pss_cons (ps_set (i := 4) sc_l_corners.nd rfl (.inl rfl) (pe_lst pa_nil))
      (pss_cons (ps_set (i := 5) sc_l_corners.nd rfl (.inl rfl) (pe_tup (pa_cons (pv 2) (pa_cons (pv 3) pa_nil))))
      (pss_cons (ps_for PassesOwn.never rfl (pi_range1 (by rfl) M.range (pa_cons (pe_op op_add (pe_op op_mul pe_int (pe_callB call_len_seq (by rfl) M.len PySem.boot_len (pa_cons (pv 0) pa_nil))) pe_int) pa_nil)) (pg_name (i := 6) sc_l_corners.nd rfl (.inl rfl))
        (pss_cons (ps_expr (pe_bm PySem.F.plainAttrs_list PySem.F.slot_list_append PySem.F.type_list_append mt_append (pv 4) (pa_cons (pv 5) pa_nil)))
        (pss_cons (ps_if (pt_cmpR (op_eqE hr.units0) (pe_ix ix_list (pv 1) (pe_ix ix_tup (pv 5) pe_int (fun _ _ => rfl)) (fun _ _ => rfl)) (pe_lst pa_nil) (nomark _))
          (pss_one (ps_ret (pv 4)))
          pss_nil)
        (pss_cons (ps_set (i := 7) sc_l_corners.nd rfl (.inl rfl) (pe_ix ix_list (pe_ix ix_list (pv 1) (pe_ix ix_tup (pv 5) pe_int (fun _ _ => rfl)) (fun _ _ => rfl)) (pe_op op_mod (pe_ix ix_tup (pv 5) pe_int (fun _ _ => rfl)) (pe_callB call_len_seq (by rfl) M.len PySem.boot_len (pa_cons (pe_ix ix_list (pv 1) (pe_ix ix_tup (pv 5) pe_int (fun _ _ => rfl)) (fun _ _ => rfl)) pa_nil))) (fun _ _ => rfl)))
        (pss_cons (ps_set (i := 8) sc_l_corners.nd rfl (.inl rfl) (pe_op op_sub (pe_op op_add (pe_ix ix_tup (pe_ix ix_list (pv 0) (pv 7) (fun _ _ => rfl)) pe_int (fun _ _ => rfl)) (pe_ix ix_tup (pe_ix ix_list (pv 0) (pv 7) (fun _ _ => rfl)) pe_int (fun _ _ => rfl))) (pe_ix ix_tup (pv 5) pe_int (fun _ _ => rfl))))
        (pss_cons (ps_set (i := 5) sc_l_corners.nd rfl (.inl rfl) (pe_tup (pa_cons (pv 8) (pa_cons (pe_op op_add (pe_bm PySem.F.plainAttrs_list PySem.F.slot_list_index PySem.F.type_list_index mt_index (pe_ix ix_list (pv 1) (pv 8) (fun _ _ => rfl)) (pa_cons (pv 7) pa_nil)) pe_int) pa_nil))))
        (pss_one (ps_if (pt_cmpR (op_eqD hr.units) (pe_tup (pa_cons (pe_ix ix_tup (pv 5) pe_int (fun _ _ => rfl)) (pa_cons (pe_op op_mod (pe_ix ix_tup (pv 5) pe_int (fun _ _ => rfl)) (pe_callB call_len_seq (by rfl) M.len PySem.boot_len (pa_cons (pe_ix ix_list (pv 1) (pe_ix ix_tup (pv 5) pe_int (fun _ _ => rfl)) (fun _ _ => rfl)) pa_nil))) pa_nil))) (pe_tup (pa_cons (pv 2) (pa_cons (pe_op op_mod (pv 3) (pe_callB call_len_seq (by rfl) M.len PySem.boot_len (pa_cons (pe_ix ix_list (pv 1) (pv 2) (fun _ _ => rfl)) pa_nil))) pa_nil))) (nomark _))
          (pss_one (ps_ret (pv 4)))
          pss_nil))))))))
      (pss_one (ps_ret (pv 4)))))), ?_⟩
    have lA := hA.len
    have lu : us.length = es.length := Paired.length hu
    refine ⟨Nat.zero_le _, fun L nL => ?_⟩
    have sL := same_new (o := .lst []) nL
    have hL1 : (upd H L (.lst [])) L = some (.lst []) := upd_same
    generalize upd H L (.lst []) = H1 at sL hL1
    refine ⟨.int p0, rfl, .int at0, rfl, by show 2 ≤ sizeLine; decide, fun h0 n0 => ?_⟩
    have s0 := same_new (o := .tup [.int p0, .int at0]) n0
    have hh0 : (upd H1 h0 (.tup [.int p0, .int at0])) h0 = some (.tup [.int p0, .int at0]) := upd_same
    have hL2 := s0 _ _ hL1
    have s2 := sL.trans s0
    generalize upd H1 h0 (.tup [.int p0, .int at0]) = H2 at hh0 hL2 s2
    refine ⟨.ref T, rfl, T, us, rfl, .inl (SqL.of (s2 _ _ hT)), _, _, rfl, rfl, .inl ⟨by decide, by decide⟩, _, _, rfl, rfl, _, rfl, by omega, by omega, ?_⟩
    have row_of : ∀ {p : Int}, 0 ≤ p → p < (rs.length : Int) → ∃ (ra : Addr) (row : List Int), atI (A.map V.ref) p = some (.ref ra) ∧ rs[p.toNat]? = some row ∧ H ra = some (.lst (row.map V.int)) := fun {p} h0 h1 => by
      have hl : p.toNat < A.length := by omega
      have e := List.getElem?_eq_getElem hl
      obtain ⟨row, e1, e2⟩ := hA.each _ _ e
      refine ⟨_, row, ?_, e1, e2⟩
      have := atI_nat (xs := A.map V.ref) (j := p.toNat) (v := .ref A[p.toNat]) (by rw [List.getElem?_map, e]; rfl)
      rw [show ((p.toNat : Nat) : Int) = p by omega] at this
      exact this
    obtain ⟨r0, row0, at0e, er0, hr0⟩ := row_of hp0.1 hp0.2
    refine for_range (lo := 0) (n := (2 * (us.length : Int) + 1).toNat) (fun i σ' H' => ∃ (h : Addr) (p a : Int) (y6 y7 y8 : Option V) (ws : List V) (cs : List (Int × Int)), σ' = [some (.ref T), some (.ref O), some (.int p0), some (.int at0), some (.ref L), some (.ref h), y6, y7, y8] ∧ H' h = some (.tup [.int p, .int a]) ∧ (0 ≤ p ∧ p < (rs.length : Int)) ∧ (0 ≤ a ∧ a ≤ 1000) ∧ (p = p0 ∨ row0 ≠ []) ∧ H' L = some (.lst ws) ∧ Paired (PrV H') ws cs ∧ (∀ c ∈ cs, (0 ≤ c.1 ∧ c.1 < (rs.length : Int)) ∧ (0 ≤ c.2 ∧ c.2 ≤ 1000)) ∧ cs.length = i ∧ Same H H') ⟨h0, p0, at0, none, none, none, [], [], rfl, hh0, hp0, ha0, .inl rfl, hL2, .nil, fun c hc => (by cases hc), rfl, s2⟩ ?_ ?_
    · clear hL2 hh0 s2
      rintro i σ' H3 hi ⟨h, p, a, y6, y7, y8, ws, cs, rfl, hh, hp, ha, ne0, hL3, hw, hc, lc, s3⟩
      have lw := Paired.length hw
      refine ⟨.ref L, rfl, .inl ⟨rfl, _, SqL.of hL3⟩, .ref h, rfl, L, _, _, rfl, rfl, hL3, small1000 (by omega), ?_⟩
      have tk := tk_lst (ys := ws ++ [.ref h]) hL3
      have hh4 := tk _ _ hh
      have s4 : Same H (upd H3 L (.lst (ws ++ [.ref h]))) := Same.mut s3 nL
      have hL4 : (upd H3 L (.lst (ws ++ [.ref h]))) L = some (.lst (ws ++ [.ref h])) := upd_same
      have hw4 : Paired (PrV (upd H3 L (.lst (ws ++ [.ref h])))) (ws ++ [.ref h]) (cs ++ [(p, a)]) := Paired.snoc (pr_tk tk hw) ⟨h, rfl, hh4⟩
      have hc4 : ∀ c ∈ cs ++ [(p, a)], (0 ≤ c.1 ∧ c.1 < (rs.length : Int)) ∧ (0 ≤ c.2 ∧ c.2 ≤ 1000) := fun c hm => by
        rcases List.mem_append.mp hm with z | z
        · exact hc c z
        · rw [List.mem_singleton.mp z]; exact ⟨hp, ha⟩
      have lc4 : (cs ++ [(p, a)]).length = i + 1 := by simp [lc]
      generalize upd H3 L (.lst (ws ++ [.ref h])) = H4 at hh4 s4 hL4 hw4
      generalize ws ++ [.ref h] = ws4 at hL4 hw4
      generalize cs ++ [(p, a)] = cs4 at hw4 hc4 lc4
      obtain ⟨ra, row, e1, er, hra⟩ := row_of hp.1 hp.2
      refine ⟨.ref O, rfl, .ref h, rfl, h, _, 0, .int p, rfl, rfl, SqT.of hh4, rfl, O, _, p, .ref ra, rfl, rfl, SqL.of (s4 _ _ hO), e1, Nat.zero_le _, fun Z nZ => ⟨ra, Z, _, rfl, rfl, SqL.of (same_new nZ _ _ (s4 _ _ hra)), SqL.of upd_same, _, rfl, ?_⟩⟩
      have sZ := same_new (o := .lst []) nZ
      have hh5 := sZ _ _ hh4
      have hL5 := sZ _ _ hL4
      have hw5 := pr_tk (Same.tk sZ) hw4
      have s5 := s4.trans sZ
      generalize upd H4 Z (.lst []) = H5 at hh5 hL5 hw5 s5
      by_cases en : row = []
      · subst en
        exact ⟨.ref L, rfl, q L ws4 cs4 _ s5 nL hL5 hw5 hc4 (by omega)⟩
      rw [show (row.map V.int).isEmpty = false from by cases row; exact absurd rfl en; rfl]
      have hrm := List.mem_of_getElem? er
      have lrow := or_.row_len hrm
      have lpos := List.length_pos_iff.mpr en
      have am := mod_rng (a := a) (m := (row.length : Int)) (by omega)
      obtain ⟨x', x1, x2⟩ := getI (xs := row.map V.int) am.1 (by rw [List.length_map]; exact am.2)
      rw [List.getElem?_map] at x2
      obtain ⟨x, ex, rfl⟩ := Option.map_eq_some_iff.mp x2
      have xin := or_.row_in hrm x (List.mem_of_getElem? ex)
      obtain ⟨k, e, rfl, ek, pe⟩ := (or_.mem _ _ er x).mp (List.mem_of_getElem? ex)
      rw [show ((p.toNat : Nat) : Int) = p by omega] at pe
      have hO5 := s5 _ _ hO
      have hra5 := s5 _ _ hra
      refine ⟨.ref O, rfl, .ref h, rfl, h, _, 0, .int p, rfl, rfl, SqT.of hh5, rfl, O, _, p, .ref ra, rfl, rfl, SqL.of hO5, e1, .ref h, rfl, h, _, 1, .int a, rfl, rfl, SqT.of hh5, rfl, .ref O, rfl, .ref h, rfl, h, _, 0, .int p, rfl, rfl, SqT.of hh5, rfl, O, _, p, .ref ra, rfl, rfl, SqL.of hO5, e1, ra, _, rfl, .inl (SqL.of hra5), _, _, rfl, rfl, (by show (0 : Int) < (((row.map V.int).length : Nat) : Int); rw [List.length_map]; omega), ra, _, _, .int (k : Nat), rfl, rfl, SqL.of hra5, (by rw [List.length_map]; exact x1), ?_⟩
      obtain ⟨u, eu, c, rfl, hcc⟩ := Paired.at' hu ek
      have ends := or_.ends e (List.mem_of_getElem? ek)
      have hT5 := s5 _ _ hT
      have hc5 := s5 _ _ hcc
      refine ⟨.ref T, rfl, .int (k : Nat), rfl, T, us, _, .ref c, rfl, rfl, SqL.of hT5, atI_nat eu, c, _, 0, .int e.1, rfl, rfl, SqT.of hc5, rfl, .ref T, rfl, .int (k : Nat), rfl, T, us, _, .ref c, rfl, rfl, SqL.of hT5, atI_nat eu, c, _, 1, .int e.2, rfl, rfl, SqT.of hc5, rfl, _, _, rfl, rfl, .ref h, rfl, h, _, 0, .int p, rfl, rfl, SqT.of hh5, rfl, _, _, rfl, rfl, ?_⟩
      have th : 0 ≤ e.1 + e.2 - p ∧ e.1 + e.2 - p < (rs.length : Int) ∧ (e.1 = e.1 + e.2 - p ∨ e.2 = e.1 + e.2 - p) := by omega
      obtain ⟨th', hth⟩ : ∃ th', th' = e.1 + e.2 - p := ⟨_, rfl⟩
      rw [← hth] at th
      obtain ⟨rb, rowb, e1b, erb, hrb⟩ := row_of th.1 th.2.1
      have kb : ((k : Nat) : Int) ∈ rowb := (or_.mem _ _ erb _).mpr ⟨k, e, rfl, ek, by rw [show ((th'.toNat : Nat) : Int) = th' by omega]; exact th.2.2⟩
      have hrbm := List.mem_of_getElem? erb
      have lrowb := or_.row_len hrbm
      obtain ⟨jl, ej⟩ := List.getElem_of_mem kb
      obtain ⟨jl2, ej⟩ := ej
      have ndb := or_.nd rowb hrbm
      have hrb5 := s5 _ _ hrb
      refine ⟨.int th', by rw [hth]; rfl, .ref O, rfl, .int th', by rw [hth]; rfl, O, _, th', .ref rb, rfl, rfl, SqL.of hO5, e1b, .inl ⟨rfl, _, SqL.of hrb5⟩, .int (k : Nat), rfl, rb, _, .int (k : Nat), jl, .int (k : Nat), rfl, rfl, SqL.of hrb5, rfl, in_flat _, (by rw [List.getElem?_map, List.getElem?_eq_getElem jl2, ej]; rfl), (by show (((k : Nat) : Int) == ((k : Nat) : Int)) = true; simp), fun m z' hm ez => ?_, _, _, rfl, rfl, by show 2 ≤ sizeLine; decide, fun r nr => ?_⟩
      · rw [List.getElem?_map] at ez
        obtain ⟨z, ez2, rfl⟩ := Option.map_eq_some_iff.mp ez
        show (z == ((k : Nat) : Int)) = false
        rw [beq_eq_false_iff_ne]
        intro zk
        obtain ⟨ml, ez3⟩ := List.getElem?_eq_some_iff.mp ez2
        exact List.pairwise_iff_getElem.mp ndb m jl ml jl2 hm (by rw [ez3, ej, zk])
      · have sr := same_new (o := .tup [.int th', .int ((jl : Nat) + 1)]) nr
        have hr6 : (upd H5 r (.tup [.int th', .int ((jl : Nat) + 1)])) r = some (.tup [.int th', .int ((jl : Nat) + 1)]) := upd_same
        have hL6 := sr _ _ hL5
        have hw6 := pr_tk (Same.tk sr) hw5
        have s6 := s5.trans sr
        generalize upd H5 r (.tup [.int th', .int ((jl : Nat) + 1)]) = H6 at hr6 hL6 hw6 s6
        have hO6 := s6 _ _ hO
        have n0 : row0 ≠ [] := ne0.elim (fun z => by
          rw [z, er0] at er
          cases er
          exact en) id
        have l0 := List.length_pos_iff.mpr n0
        have lb : 0 < rowb.length := by omega
        refine ⟨.ref r, rfl, r, _, 0, .int th', rfl, rfl, SqT.of hr6, rfl, .ref r, rfl, r, _, 1, .int ((jl : Nat) + 1), rfl, rfl, SqT.of hr6, rfl, .ref O, rfl, .ref r, rfl, r, _, 0, .int th', rfl, rfl, SqT.of hr6, rfl, O, _, th', .ref rb, rfl, rfl, SqL.of hO6, e1b, rb, _, rfl, .inl (SqL.of (s6 _ _ hrb)), _, _, rfl, rfl, (by show (0 : Int) < (((rowb.map V.int).length : Nat) : Int); rw [List.length_map]; omega), by show 2 ≤ sizeLine; decide, fun c1 nc1 => ?_⟩
        have sc1 := same_new (o := .tup [.int th', .int (((jl : Nat) + 1) % (((rowb.map V.int).length : Nat) : Int))]) nc1
        refine ⟨.int p0, rfl, .int at0, rfl, .ref O, rfl, .int p0, rfl, O, _, p0, .ref r0, rfl, rfl, SqL.of (sc1 _ _ hO6), at0e, r0, _, rfl, .inl (SqL.of (sc1 _ _ (s6 _ _ hr0))), _, _, rfl, rfl, (by show (0 : Int) < (((row0.map V.int).length : Nat) : Int); rw [List.length_map]; omega), by show 2 ≤ sizeLine; decide, fun c2 nc2 => ?_⟩
        have sc2 := same_new (o := .tup [.int p0, .int (at0 % (((row0.map V.int).length : Nat) : Int))]) nc2
        have sc := sc1.trans sc2
        refine ⟨_, _, IntsV.dp (xs := [th', ((jl : Nat) + 1) % (((rowb.map V.int).length : Nat) : Int)]) ⟨c1, rfl, sc2 _ _ upd_same⟩, IntsV.dp (xs := [p0, at0 % (((row0.map V.int).length : Nat) : Int)]) ⟨c2, rfl, upd_same⟩, shaped_intsD _, shaped_intsD _, _, rfl, ite2 (fun _ => ?_) (fun _ => ?_)⟩
        · exact ⟨.ref L, rfl, q L ws4 cs4 _ (s6.trans sc) nL (sc _ _ hL6) (pr_tk (Same.tk sc) hw6) hc4 (by omega)⟩
        · exact ⟨r, th', (jl : Nat) + 1, _, _, _, ws4, cs4, rfl, sc _ _ hr6, ⟨th.1, th.2.1⟩, by omega, .inr n0, sc _ _ hL6, pr_tk (Same.tk sc) hw6, hc4, lc4, s6.trans sc⟩
    · rintro σ' H3 ⟨h, p, a, y6, y7, y8, ws, cs, rfl, hh, hp, ha, ne0, hL3, hw, hc, lc, s3⟩
      exact ⟨.ref L, rfl, q L ws cs _ s3 nL hL3 hw hc (by omega)⟩
end
/-! ### flats: grown -/
theorem dec_intF (a b : Int) : decide (V.int a = V.int b) = decide (a = b) := by
  by_cases h : a = b
  · rw [decide_eq_true h, h, decide_eq_true rfl]
  · rw [decide_eq_false h, decide_eq_false (fun z => h (V.int.inj z))]
theorem Ord.start : Ord [[]] [] := ⟨fun e h => (by cases h), fun row h => by rw [List.mem_singleton.mp h]; exact List.nodup_nil, fun p row e x => by
  match p, e with
  | 0, e =>
    cases e
    exact ⟨fun h => (by cases h), fun ⟨k, e, _, h, _⟩ => by simp at h⟩
  | p + 1, e => simp at e⟩
theorem Ord.more {rs : List (List Int)} {es : List (Int × Int)} (h : Ord rs es) : Ord (rs ++ [[]]) es := by
  refine ⟨fun e he => ?_, fun row hr => ?_, fun p row e x => ?_⟩
  · have := h.ends e he
    rw [List.length_append]
    simp only [List.length_singleton]
    push_cast
    omega
  · rcases List.mem_append.mp hr with z | z
    · exact h.nd row z
    · rw [List.mem_singleton.mp z]; exact List.nodup_nil
  · by_cases hp : p < rs.length
    · rw [List.getElem?_append_left hp] at e
      exact h.mem p row e x
    · rw [List.getElem?_append_right (by omega)] at e
      have hp2 : p - rs.length = 0 := by
        have := (List.getElem?_eq_some_iff.mp e).1
        simp at this
        omega
      rw [hp2] at e
      cases e
      refine ⟨fun z => (by cases z), fun ⟨k, e, _, h2, h3⟩ => ?_⟩
      have := h.ends e (List.mem_of_getElem? h2)
      omega
theorem Ord.link {rs rs' : List (List Int)} {es : List (Int × Int)} {p q : Nat} (h : Ord rs es) (hl : rs'.length = rs.length) (hp : p < rs.length) (hq : q < rs.length) (pq : p ≠ q) (each : ∀ (i : Nat) (row' : List Int), rs'[i]? = some row' → ∃ row, rs[i]? = some row ∧ ((i = p ∨ i = q) → (∀ x : Int, x ∈ row' ↔ x ∈ row ∨ x = (es.length : Int)) ∧ row'.Nodup) ∧ (¬ (i = p ∨ i = q) → row' = row)) : Ord rs' (es ++ [((p : Int), (q : Int))]) := by
  refine ⟨fun e he => ?_, fun row hr => ?_, fun i row e x => ?_⟩
  · rw [hl]
    rcases List.mem_append.mp he with z | z
    · exact h.ends e z
    · rw [List.mem_singleton.mp z]
      simp only
      omega
  · obtain ⟨i, hi⟩ := List.getElem?_of_mem hr
    obtain ⟨row0, e0, e1, e2⟩ := each i row hi
    by_cases c : i = p ∨ i = q
    · exact (e1 c).2
    · rw [e2 c]; exact h.nd row0 (List.mem_of_getElem? e0)
  · obtain ⟨row0, e0, e1, e2⟩ := each i row e
    have m0 := h.mem i row0 e0 x
    by_cases c : i = p ∨ i = q
    · rw [(e1 c).1 x, m0]
      constructor
      · rintro (⟨k, e, rfl, ek, he⟩ | rfl)
        · exact ⟨k, e, rfl, by rw [List.getElem?_append_left (List.getElem?_eq_some_iff.mp ek).1]; exact ek, he⟩
        · exact ⟨es.length, ((p : Int), (q : Int)), rfl, by rw [List.getElem?_append_right (Nat.le_refl _), Nat.sub_self]; rfl, c.elim (fun z => .inl (by rw [z])) (fun z => .inr (by rw [z]))⟩
      · rintro ⟨k, e, rfl, ek, he⟩
        by_cases hk : k < es.length
        · rw [List.getElem?_append_left hk] at ek
          exact .inl ⟨k, e, rfl, ek, he⟩
        · have := (List.getElem?_eq_some_iff.mp ek).1
          rw [List.length_append, List.length_singleton] at this
          exact .inr (by omega)
    · rw [e2 c, m0]
      constructor
      · rintro ⟨k, e, rfl, ek, he⟩
        exact ⟨k, e, rfl, by rw [List.getElem?_append_left (List.getElem?_eq_some_iff.mp ek).1]; exact ek, he⟩
      · rintro ⟨k, e, rfl, ek, he⟩
        by_cases hk : k < es.length
        · rw [List.getElem?_append_left hk] at ek
          exact ⟨k, e, rfl, ek, he⟩
        · exfalso
          have hk2 := (List.getElem?_eq_some_iff.mp ek).1
          rw [List.length_append, List.length_singleton] at hk2
          rw [List.getElem?_append_right (by omega), show k - es.length = 0 by omega] at ek
          cases ek
          exact c (he.elim (fun z => .inl (Int.ofNat.inj z).symm) fun z => .inr (Int.ofNat.inj z).symm)
def insR (row : List Int) (i : Nat) (m : Int) : List Int := row.take i ++ [m] ++ row.drop i
theorem insR_map (row : List Int) (i : Nat) (m : Int) : (row.map V.int).take i ++ [V.int m] ++ (row.map V.int).drop i = (insR row i m).map V.int := by
  unfold insR
  rw [List.map_append, List.map_append, List.map_take, List.map_drop]
  rfl
theorem insR_mem {row : List Int} {i : Nat} {m x : Int} : x ∈ insR row i m ↔ x ∈ row ∨ x = m := by
  have e : x ∈ row ↔ x ∈ row.take i ∨ x ∈ row.drop i := by
    rw [← List.mem_append, List.take_append_drop]
  unfold insR
  rw [List.mem_append, List.mem_append, List.mem_singleton, e]
  constructor
  · rintro ((h | h) | h)
    · exact .inl (.inl h)
    · exact .inr h
    · exact .inl (.inr h)
  · rintro ((h | h) | h)
    · exact .inl (.inl h)
    · exact .inr h
    · exact .inl (.inr h)
theorem insR_nd {row : List Int} {i : Nat} {m : Int} (nd : row.Nodup) (h : m ∉ row) : (insR row i m).Nodup := by
  have p : (insR row i m).Perm (m :: row) := by
    unfold insR
    rw [List.append_assoc]
    refine (List.perm_middle (l₁ := row.take i) (l₂ := row.drop i) (a := m)).trans ?_
    rw [List.take_append_drop]
  exact p.nodup_iff.mpr (List.nodup_cons.mpr ⟨h, nd⟩)
/-- what is being grown: all of it new -/
structure Grw (H0 : Hp) (d T O : Addr) (H : Hp) (us : List V) (es : List (Int × Int)) (A : List Addr) (rs : List (List Int)) : Prop where
  hT : H T = some (.lst us)
  hu : Paired (PrV H) us es
  hO : H O = some (.lst (A.map V.ref))
  rw' : Rw H A rs
  TO : T ≠ O
  Td : T ≠ d
  Od : O ≠ d
  T0 : H0 T = none
  O0 : H0 O = none
  aA : ∀ a ∈ A, a ≠ T ∧ a ≠ O ∧ a ≠ d ∧ H0 a = none
  dk : FDk H d
  kp : Kp d d H0 H
section
variable {H0 H H' : Hp} {d T O : Addr} {us : List V} {es : List (Int × Int)} {A : List Addr} {rs : List (List Int)}
theorem Grw.same (g : Grw H0 d T O H us es A rs) (s : Same H H') : Grw H0 d T O H' us es A rs :=
  ⟨s _ _ g.hT, pr_tk (Same.tk s) g.hu, s _ _ g.hO, g.rw'.ext fun _ _ _ h => s _ _ h, g.TO, g.Td, g.Od, g.T0, g.O0, g.aA, g.dk.same s, g.kp.trans (Same.kp s)⟩
theorem Grw.take (g : Grw H0 d T O H us es A rs) (k : Kp d d H H') (D : FDk H' d) : Grw H0 d T O H' us es A rs :=
  ⟨k _ _ g.Td g.Td g.hT, pr_tk (g.dk.tk k) g.hu, k _ _ g.Od g.Od g.hO, g.rw'.ext fun a ha _ h => k _ _ (g.aA a ha).2.2.1 (g.aA a ha).2.2.1 h, g.TO, g.Td, g.Od, g.T0, g.O0, g.aA, D, g.kp.trans k⟩
theorem Grw.dk_ne (g : Grw H0 d T O H us es A rs) {a : Addr} (h : a ≠ d) {o : HO} : FDk (upd H a o) d := by
  obtain ⟨ns, h1, h2⟩ := g.dk
  exact ⟨ns, by rw [upd_ne (Ne.symm h)]; exact h1, h2⟩
theorem Grw.row (g : Grw H0 d T O H us es A rs) {p : Nat} {ra : Addr} (ea : A[p]? = some ra) {row : List Int} (hr : H ra = some (.lst (row.map V.int))) (row' : List Int) : Grw H0 d T O (upd H ra (.lst (row'.map V.int))) us es A (rs.set p row') := by
  have a := g.aA ra (List.mem_of_getElem? ea)
  exact ⟨by rw [upd_ne a.1.symm]; exact g.hT, pr_tk (tk_lst hr) g.hu, by rw [upd_ne a.2.1.symm]; exact g.hO, g.rw'.put ea row', g.TO, g.Td, g.Od, g.T0, g.O0, g.aA, g.dk_ne a.2.2.1, g.kp.mut a.2.2.2⟩
theorem Grw.tie (g : Grw H0 d T O H us es A rs) {c : Addr} {x y : Int} (hc : H c = some (.tup [.int x, .int y])) : Grw H0 d T O (upd H T (.lst (us ++ [.ref c]))) (us ++ [.ref c]) (es ++ [(x, y)]) A rs := by
  have tk := tk_lst (ys := us ++ [.ref c]) g.hT
  exact ⟨upd_same, Paired.snoc (pr_tk tk g.hu) ⟨c, rfl, tk _ _ hc⟩, by rw [upd_ne g.TO.symm]; exact g.hO, g.rw'.ext fun a ha _ h => by rw [upd_ne (g.aA a ha).1]; exact h, g.TO, g.Td, g.Od, g.T0, g.O0, g.aA, g.dk_ne g.Td, g.kp.mut g.T0⟩
theorem Grw.more (g : Grw H0 d T O H us es A rs) {p : Addr} (np : H p = none) (row : List Int) : Grw H0 d T O (upd (upd H p (.lst (row.map V.int))) O (.lst (A.map V.ref ++ [.ref p]))) us es (A ++ [p]) (rs ++ [row]) := by
  have sp := same_new (o := .lst (row.map V.int)) np
  have pT : p ≠ T := (ne_of_none g.hT np).symm
  have pO : p ≠ O := (ne_of_none g.hO np).symm
  have pd : p ≠ d := g.dk.ned np
  have g1 := g.same sp
  have tk := tk_lst (ys := A.map V.ref ++ [.ref p]) g1.hO
  refine ⟨by rw [upd_ne g.TO]; exact g1.hT, pr_tk tk g1.hu, by rw [upd_same, List.map_append]; rfl, (g.rw'.more np row).ext fun a ha _ h => ?_, g.TO, g.Td, g.Od, g.T0, g.O0, fun a ha => ?_, g1.dk_ne g.Od, g1.kp.mut g.O0⟩
  · rw [upd_ne]
    · exact h
    · rcases List.mem_append.mp ha with z | z
      · exact (g.aA a z).2.1
      · rw [List.mem_singleton.mp z]; exact pO
  · rcases List.mem_append.mp ha with z | z
    · exact g.aA a z
    · rw [List.mem_singleton.mp z]
      exact ⟨pT, pO, pd, g.kp.free np pd pd⟩
theorem Grw.at' (g : Grw H0 d T O H us es A rs) {p : Int} (h0 : 0 ≤ p) (h1 : p < (rs.length : Int)) : ∃ (ra : Addr) (row : List Int), A[p.toNat]? = some ra ∧ atI (A.map V.ref) p = some (.ref ra) ∧ rs[p.toNat]? = some row ∧ H ra = some (.lst (row.map V.int)) := by
  have lA := g.rw'.len
  have hl : p.toNat < A.length := by omega
  have e := List.getElem?_eq_getElem hl
  obtain ⟨row, e1, e2⟩ := g.rw'.each _ _ e
  refine ⟨_, row, e, ?_, e1, e2⟩
  have := atI_nat (xs := A.map V.ref) (j := p.toNat) (v := .ref A[p.toNat]) (by rw [List.getElem?_map, e]; rfl)
  rw [show ((p.toNat : Nat) : Int) = p by omega] at this
  exact this
end
def spGrown : Sp := fun vs H Q _ => ∃ (d : Addr) (most many : Int), vs = [.ref d, .int most, .int many] ∧ FDk H d ∧ 1 ≤ most ∧ most ≤ 50 ∧ 0 ≤ many ∧ many ≤ 100 ∧
  ∀ r T O us es A rs H', H' r = some (.tup [.ref T, .ref O]) → Grw H d T O H' us es A rs → Ord rs es → 1 ≤ rs.length → rs.length ≤ 50 → es.length ≤ 100 → Q (.ref r) H'
section
variable {P : Program} {w : World} {K : PySem.W.Frag} {mg : Str → Option Value} {base : Heap}
set_option maxHeartbeats 4000000 in
theorem ok_l_grown {f : Addr} {fd : FuncData} (F : Fun K "_law_grown" "_law_grown" s_l_grown f fd) (M : Free mg) (D_l_take : Df P w K mg base 2 "_law_take" ["_law_deck_here", "_law_most"] spTake) (D_l_corners : Df P w K mg base 1 "_law_corners" ["_law_ties", "_law_orders", "_law_place", "_law_at"] spCorners) : FnOk P w K mg base CX0 3 f fd ["_law_deck_here", "_law_most", "_law_many_ties"] spGrown := by
  obtain ⟨f_l_take, fd_l_take, G_l_take, g_l_take, k_l_take, b_l_take⟩ := D_l_take
  obtain ⟨f_l_corners, fd_l_corners, G_l_corners, g_l_corners, k_l_corners, b_l_corners⟩ := D_l_corners
  refine F.ok sc_l_grown (fun vs H Q E h => ?_) (fun cdv A outer s H vs Q E hr h => ?_)
  · obtain ⟨d, most, many, rfl, _⟩ := h
    rfl
  · obtain ⟨d, most, many, rfl, hD, m0, m1, y0, y1, q⟩ := h
    refine ⟨_, (pss_cons (ps_set (i := 3) sc_l_grown.nd rfl (.inl rfl) (pe_lst (pa_cons (pe_lst pa_nil) pa_nil)))
      (pss_cons (ps_set (i := 4) sc_l_grown.nd rfl (.inl rfl) (pe_lst pa_nil))
      (pss_cons (ps_for PassesOwn.never rfl (pi_range1 (by rfl) M.range (pa_cons (pv 2) pa_nil)) (pg_name (i := 5) sc_l_grown.nd rfl (.inl rfl))
        (pss_cons (ps_set (i := 6) sc_l_grown.nd rfl (.inl rfl) (pe_call G_l_take (hr.mono (by decide)) (by rfl) g_l_take k_l_take b_l_take .nil pass0 (pa_cons (pv 0) (pa_cons pe_int pa_nil))))
        (pss_cons (ps_set (i := 7) sc_l_grown.nd rfl (.inr rfl) (pe_call G_l_take (hr.mono (by decide)) (by rfl) g_l_take k_l_take b_l_take .nil pass0 (pa_cons (pv 0) (pa_cons (pe_callB call_len_seq (by rfl) M.len PySem.boot_len (pa_cons (pv 3) pa_nil)) pa_nil))))
        (pss_cons (ps_set (i := 8) sc_l_grown.nd rfl (.inl rfl) (pe_call G_l_take (hr.mono (by decide)) (by rfl) g_l_take k_l_take b_l_take .nil pass0 (pa_cons (pv 0) (pa_cons (pe_op op_add (pe_callB call_len_seq (by rfl) M.len PySem.boot_len (pa_cons (pe_ix ix_list (pv 3) (pv 7) (fun _ _ => rfl)) pa_nil)) pe_int) pa_nil))))
        (pss_one (ps_if (PW.pt (pw_and (pt_cmpR op_lt (pv 6) pe_int (nomark _)) (pw_and1 (pt_cmpR op_lt (pe_callB call_len_seq (by rfl) M.len PySem.boot_len (pa_cons (pv 3) pa_nil)) (pv 1) (nomark _)))))
          (pss_cons (ps_expr (pe_bm PySem.F.plainAttrs_list PySem.F.slot_list_append PySem.F.type_list_append mt_append (pv 3) (pa_cons (pe_lst (pa_cons (pe_callB call_len_seq (by rfl) M.len PySem.boot_len (pa_cons (pv 4) pa_nil)) pa_nil)) pa_nil)))
          (pss_cons (ps_expr (pe_bm PySem.F.plainAttrs_list PySem.F.slot_list_insert PySem.F.type_list_insert mt_insert (pe_ix ix_list (pv 3) (pv 7) (fun _ _ => rfl)) (pa_cons (pv 8) (pa_cons (pe_callB call_len_seq (by rfl) M.len PySem.boot_len (pa_cons (pv 4) pa_nil)) pa_nil))))
          (pss_one (ps_expr (pe_bm PySem.F.plainAttrs_list PySem.F.slot_list_append PySem.F.type_list_append mt_append (pv 4) (pa_cons (pe_tup (pa_cons (pv 7) (pa_cons (pe_op op_sub (pe_callB call_len_seq (by rfl) M.len PySem.boot_len (pa_cons (pv 3) pa_nil)) pe_int) pa_nil))) pa_nil))))))
          (pss_one (ps_if (PW.pt (pw_and (pt_cmpR op_eq (pv 6) pe_int (nomark _)) (pw_and1 (pt_cmpR op_lt (pe_callB call_len_seq (by rfl) M.len PySem.boot_len (pa_cons (pv 3) pa_nil)) (pv 1) (nomark _)))))
            (pss_one (ps_expr (pe_bm PySem.F.plainAttrs_list PySem.F.slot_list_append PySem.F.type_list_append mt_append (pv 3) (pa_cons (pe_lst pa_nil) pa_nil))))
            (pss_cons (ps_setLc (i := 9) (own := [("_law_corner", 10)]) (g := (gName 10)) (te := tVar 10) rfl sc_l_grown.nd rfl rfl (sw_true rfl rfl rfl (by decide +kernel)) (pi_list (pe_call G_l_corners (hr.mono (by decide)) (by rfl) g_l_corners k_l_corners b_l_corners .nil pass0 (pa_cons (pv 4) (pa_cons (pv 3) (pa_cons (pv 7) (pa_cons (pv 8) pa_nil)))))) (blkOk_by (N := N_l_grown) (sc := defScope s_l_grown) (own := [("_law_corner", 10)]) (by decide +kernel)) (fun _ _ _ _ _ => (pg_name (i := 10) sc_l_grown.nd rfl (.inl rfl))) (fun _ _ _ _ _ => (pts_one (pt_cmpR op_ne (pe_ix (r := rIxT K) ix_tup (pv 10) pe_int (fun _ _ => rfl)) (pv 7) (nomark _)))) (fun _ _ _ _ _ => (pv 10)))
            (pss_one (ps_if (pt_cmpR (op_neE hr.units0) (pv 9) (pe_lst pa_nil) (nomark _))
              (pss_cons (ps_asg (pe_ix ix_list (pv 9) (pe_call G_l_take (hr.mono (by decide)) (by rfl) g_l_take k_l_take b_l_take .nil pass0 (pa_cons (pv 0) (pa_cons (pe_callB call_len_seq (by rfl) M.len PySem.boot_len (pa_cons (pv 9) pa_nil)) pa_nil))) (fun _ _ => rfl)) (pg_tup rfl (pgs_cons (pg_name (i := 11) sc_l_grown.nd rfl (.inl rfl)) (pgs_cons (pg_name (i := 12) sc_l_grown.nd rfl (.inl rfl)) pgs_nil))))
              (pss_cons (ps_expr (pe_bm PySem.F.plainAttrs_list PySem.F.slot_list_insert PySem.F.type_list_insert mt_insert (pe_ix ix_list (pv 3) (pv 7) (fun _ _ => rfl)) (pa_cons (pv 8) (pa_cons (pe_callB call_len_seq (by rfl) M.len PySem.boot_len (pa_cons (pv 4) pa_nil)) pa_nil))))
              (pss_cons (ps_expr (pe_bm PySem.F.plainAttrs_list PySem.F.slot_list_insert PySem.F.type_list_insert mt_insert (pe_ix ix_list (pv 3) (pv 11) (fun _ _ => rfl)) (pa_cons (pv 12) (pa_cons (pe_callB call_len_seq (by rfl) M.len PySem.boot_len (pa_cons (pv 4) pa_nil)) pa_nil))))
              (pss_one (ps_expr (pe_bm PySem.F.plainAttrs_list PySem.F.slot_list_append PySem.F.type_list_append mt_append (pv 4) (pa_cons (pe_tup (pa_cons (pv 7) (pa_cons (pv 11) pa_nil))) pa_nil)))))))
              pss_nil)))))))))))
      (pss_one (ps_ret (pe_tup (pa_cons (pv 4) (pa_cons (pv 3) pa_nil)))))))), ?_⟩
    refine ⟨Nat.zero_le _, fun a0 na0 => ⟨by show 1 ≤ sizeLine; decide, fun O nO => ?_⟩⟩
    have s1 := same_new (o := .lst []) na0
    have ha1 : (upd H a0 (.lst [])) a0 = some (.lst (([] : List Int).map V.int)) := upd_same
    have a0d : a0 ≠ d := hD.ned na0
    have D1 := hD.same s1
    have nO0 : H O = none := s1.free nO
    have aO : a0 ≠ O := ne_of_none ha1 nO
    generalize upd H a0 (.lst []) = H1 at s1 ha1 D1 nO
    have s2 := same_new (o := .lst [.ref a0]) nO
    have hO2 : (upd H1 O (.lst [.ref a0])) O = some (.lst (([a0] : List Addr).map V.ref)) := upd_same
    have Od : O ≠ d := D1.ned nO
    have D2 := D1.same s2
    have ha2 := s2 _ _ ha1
    have s12 := s1.trans s2
    generalize upd H1 O (.lst [.ref a0]) = H2 at s2 hO2 D2 ha2 s12
    refine ⟨Nat.zero_le _, fun T nT => ?_⟩
    have s3 := same_new (o := .lst []) nT
    have g3 : Grw H d T O (upd H2 T (.lst [])) [] [] [a0] [[]] := ⟨upd_same, .nil, s3 _ _ hO2, ⟨by simp, rfl, fun j a e => by
      match j, e with
      | 0, e => cases e; exact ⟨[], rfl, s3 _ _ ha2⟩
      | j + 1, e => simp at e⟩, (ne_of_none hO2 nT).symm, D2.ned nT, Od, s12.free nT, nO0, fun a ha => by
        rw [List.mem_singleton.mp ha]
        exact ⟨ne_of_none ha2 nT, aO, a0d, na0⟩, D2.same s3, Same.kp (s12.trans s3)⟩
    generalize upd H2 T (.lst []) = H3 at g3
    refine ⟨.int many, rfl, many, rfl, by omega, by omega, ?_⟩
    refine for_range (lo := 0) (n := many.toNat) (fun i σ' H' => ∃ (y5 y6 y7 y8 y9 y11 y12 : Option V) (us : List V) (es : List (Int × Int)) (A : List Addr) (rs : List (List Int)), σ' = [some (.ref d), some (.int most), some (.int many), some (.ref O), some (.ref T), y5, y6, y7, y8, y9, none, y11, y12] ∧ Grw H d T O H' us es A rs ∧ Ord rs es ∧ 1 ≤ rs.length ∧ rs.length ≤ 50 ∧ es.length ≤ i) ⟨none, none, none, none, none, none, none, [], [], [a0], [[]], rfl, g3, Ord.start, by simp, by simp, by simp⟩ ?_ ?_
    · rintro i σ' H4 hi ⟨y5, y6, y7, y8, y9, y11, y12, us, es, A, rs, rfl, g, od, r1, r50, le⟩
      have lA := g.rw'.len
      have lu : us.length = es.length := Paired.length g.hu
      have lAm : (A.map V.ref).length = rs.length := by rw [List.length_map, lA]
      -- way
      refine ⟨.ref d, rfl, d, 8, rfl, g.dk, by decide, by decide, fun wy H5 w0 w1 D5 K5 => ?_⟩
      have g := g.take K5 D5
      -- place
      refine ⟨.ref d, rfl, .ref O, rfl, O, _, rfl, .inl (SqL.of g.hO), d, _, rfl, g.dk, by omega, by omega, fun pl H6 p0 p1 D6 K6 => ?_⟩
      rw [lAm] at p1
      have g := g.take K6 D6
      obtain ⟨ra, row, ea, e1, er, hra⟩ := g.at' p0 p1
      have lrow := od.row_len (List.mem_of_getElem? er)
      -- at
      refine ⟨.ref d, rfl, .ref O, rfl, .int pl, rfl, O, _, pl, .ref ra, rfl, rfl, SqL.of g.hO, e1, ra, _, rfl, .inl (SqL.of hra), _, _, rfl, rfl, d, _, rfl, g.dk, by omega, by rw [List.length_map]; omega, fun at' H7 t0 t1 D7 K7 => ?_⟩
      rw [List.length_map] at t1
      have g := g.take K7 D7
      obtain ⟨ra', row', ea', e1', er', hra⟩ := g.at' p0 p1
      rw [ea] at ea'
      cases ea'
      rw [er] at er'
      cases er'
      clear e1' D5 K5 D6 K6 D7 K7
      refine ⟨.int wy, rfl, _, _, rfl, rfl, _, rfl, ?_⟩
      by_cases h1 : wy < 4
      · rw [decide_eq_true h1]
        refine ⟨.ref O, rfl, O, _, rfl, .inl (SqL.of g.hO), .int most, rfl, _, _, rfl, rfl, _, rfl, ?_⟩
        by_cases h2 : (((A.map V.ref).length : Nat) : Int) < most
        · rw [decide_eq_true h2]
          refine ⟨.ref O, rfl, .inl ⟨rfl, _, SqL.of g.hO⟩, .ref T, rfl, T, us, rfl, .inl (SqL.of g.hT), by show 1 ≤ sizeLine; decide, fun p np => ?_⟩
          have g1 := g.more np [((us.length : Nat) : Int)]
          refine ⟨O, _, _, rfl, rfl, same_new np _ _ g.hO, small1000 (by omega), ?_⟩
          have hx : upd (upd H7 p (.lst ([((us.length : Nat) : Int)].map V.int))) O (.lst (A.map V.ref ++ [.ref p])) = upd (upd H7 p (.lst [V.int (us.length : Nat)])) O (.lst (A.map V.ref ++ [.ref p])) := rfl
          rw [hx] at g1
          generalize upd (upd H7 p (.lst [V.int (us.length : Nat)])) O (.lst (A.map V.ref ++ [.ref p])) = H8 at g1
          obtain ⟨ra1, row1, ea1, e11, er1, hra1⟩ := g1.at' (p := pl) p0 (by rw [List.length_append]; show pl < ((rs.length + 1 : Nat) : Int); omega)
          have er1' := er1
          rw [List.getElem?_append_left (by omega), er] at er1'
          cases er1'
          refine ⟨.ref O, rfl, .int pl, rfl, O, _, pl, .ref ra1, rfl, rfl, SqL.of g1.hO, e11, .inl ⟨rfl, _, SqL.of hra1⟩, .int at', rfl, .ref T, rfl, T, us, rfl, .inl (SqL.of g1.hT), ra1, _, at', _, rfl, rfl, hra1, small1000 (by rw [List.length_map]; omega), t0, by omega, ?_⟩
          rw [insR_map]
          have g2 := g1.row ea1 hra1 (insR row at'.toNat (us.length : Nat))
          generalize upd H8 ra1 (.lst ((insR row at'.toNat (us.length : Nat)).map V.int)) = H9 at g2
          refine ⟨.ref T, rfl, .inl ⟨rfl, _, SqL.of g2.hT⟩, .int pl, rfl, .ref O, rfl, O, _, rfl, .inl (SqL.of g2.hO), _, _, rfl, rfl, by show 2 ≤ sizeLine; decide, fun c nc => ?_⟩
          have sc := same_new (o := .tup [.int pl, .int ((((A ++ [p]).map V.ref).length : Nat) - 1)]) nc
          have g3 := (g2.same sc).tie (c := c) upd_same
          refine ⟨T, us, _, rfl, rfl, (g2.same sc).hT, small1000 (by omega), ?_⟩
          have el : ((((A ++ [p]).map V.ref).length : Nat) : Int) - 1 = (rs.length : Int) := by
            rw [List.length_map, List.length_append, lA]
            show (((rs.length + 1 : Nat)) : Int) - 1 = _
            omega
          refine ⟨_, _, _, _, _, _, _, us ++ [.ref c], _, A ++ [p], _, rfl, g3, ?_, by rw [List.length_set, List.length_append]; show 1 ≤ _ + 1; omega, by rw [List.length_set, List.length_append]; show _ + 1 ≤ 50; omega, by rw [List.length_append]; show _ + 1 ≤ _; omega⟩
          rw [el]
          have no : ∀ {r : List Int}, r ∈ rs → ((us.length : Nat) : Int) ∉ r := fun hr z => by
            have := (od.row_in hr _ z).2
            omega
          have lk := od.more.link (rs' := (rs ++ [[((us.length : Nat) : Int)]]).set pl.toNat (insR row at'.toNat (us.length : Nat))) (p := pl.toNat) (q := rs.length) (by rw [List.length_set, List.length_append, List.length_append]; rfl) (by rw [List.length_append]; show _ < _ + 1; omega) (by rw [List.length_append]; show _ < _ + 1; omega) (by omega) (fun i' row' e' => ?_)
          · rw [show ((pl.toNat : Nat) : Int) = pl by omega] at lk
            exact lk
          · by_cases c2 : pl.toNat = i'
            · subst c2
              rw [List.getElem?_set_self (by rw [List.length_append]; show _ < _ + 1; omega)] at e'
              cases e'
              exact ⟨row, by rw [List.getElem?_append_left (by omega)]; exact er, fun _ => ⟨fun x => by rw [insR_mem, lu], insR_nd (od.nd _ (List.mem_of_getElem? er)) (no (List.mem_of_getElem? er))⟩, fun z => (z (.inl rfl)).elim⟩
            · rw [List.getElem?_set_ne c2] at e'
              by_cases c3 : i' < rs.length
              · rw [List.getElem?_append_left c3] at e'
                exact ⟨row', by rw [List.getElem?_append_left c3]; exact e', fun z => (z.elim (fun y => c2 y.symm) fun y => by omega).elim, fun _ => rfl⟩
              · have hl := (List.getElem?_eq_some_iff.mp e').1
                rw [List.length_append] at hl
                have hl : i' < rs.length + 1 := hl
                obtain rfl : i' = rs.length := by omega
                rw [List.getElem?_append_right (Nat.le_refl _), Nat.sub_self] at e'
                cases e'
                exact ⟨[], by rw [List.getElem?_append_right (Nat.le_refl _), Nat.sub_self]; rfl, fun _ => ⟨fun x => by rw [← lu]; simp, by simp⟩, fun z => (z (.inr rfl)).elim⟩
        · rw [decide_eq_false h2]
          refine ⟨.int wy, rfl, rfl, false, (by rw [dec_intF, decide_eq_false (show ¬ wy = 4 by omega)]), ?_⟩
          refine ⟨.ref T, rfl, .ref O, rfl, .int pl, rfl, .int at', rfl, T, O, pl, at', us, es, A, rs, rfl, g.hT, g.hu, g.hO, g.rw', od, by omega, by omega, ⟨p0, p1⟩, ⟨t0, by omega⟩, fun L ws cs H8 s8 nL hL hw hc lc => ?_⟩
          have lw := Paired.length hw
          refine ⟨L, rfl, ⟨ws, SqL.of hL⟩, fun Z nZ => ?_⟩
          refine lc_list (xs := ws) (fun j H' => ∃ (us' : List V) (cs' : List (Int × Int)), H' Z = some (.lst us') ∧ Paired (PrV H') us' cs' ∧ (∀ c ∈ cs', c.1 ≠ pl ∧ (0 ≤ c.1 ∧ c.1 < (rs.length : Int)) ∧ (0 ≤ c.2 ∧ c.2 ≤ 1000)) ∧ us'.length ≤ j ∧ Same H8 H') ⟨[], [], upd_same, .nil, fun c hc => (by cases hc), Nat.le_refl _, same_new nZ⟩ (fun j H' _ h => by
            obtain ⟨_, _, _, _, _, _, s⟩ := h
            exact SqL.of (s _ _ hL)) ?_ ?_
          · rintro j x H9 ex ⟨us', cs', hZ, hu', hc', lu', s9⟩
            have jl := (List.getElem?_eq_some_iff.mp ex).1
            obtain ⟨q0, eq0, c, rfl, hcc⟩ := Paired.at hw ex
            refine ⟨rfl, .ref c, rfl, c, _, 0, .int q0.1, rfl, rfl, SqT.of (s9 _ _ hcc), rfl, .int pl, rfl, rfl, _, rfl, ?_⟩
            rw [dec_intF]
            by_cases e : q0.1 = pl
            · rw [decide_eq_true e]
              exact ⟨us', cs', hZ, hu', hc', by omega, s9⟩
            · rw [decide_eq_false e]
              have tk := tk_lst (ys := us' ++ [.ref c]) hZ
              refine ⟨.ref c, rfl, _, hZ, small1000 (by omega), us' ++ [.ref c], cs' ++ [q0], upd_same, Paired.snoc (pr_tk tk hu') ⟨c, rfl, tk _ _ (s9 _ _ hcc)⟩, fun z hz => ?_, by rw [List.length_append]; show _ + 1 ≤ _; omega, Same.mut s9 nZ⟩
              rcases List.mem_append.mp hz with h | h
              · exact hc' z h
              · rw [List.mem_singleton.mp h]
                exact ⟨e, hc q0 (List.mem_of_getElem? eq0)⟩
          · rintro H9 ⟨us', cs', hZ, hu', hc', lu', s9⟩
            have g9 := (g.same s8).same s9
            refine ⟨.ref Z, rfl, Nat.zero_le _, fun E nE => ⟨Z, E, _, rfl, rfl, SqL.of (same_new nE _ _ hZ), SqL.of upd_same, _, rfl, ?_⟩⟩
            have sE := same_new (o := .lst []) nE
            have gE := g9.same sE
            have hZE := sE _ _ hZ
            have huE := pr_tk (Same.tk sE) hu'
            generalize upd H9 E (.lst []) = H10 at gE hZE huE
            by_cases en : us' = []
            · rw [en]
              exact ⟨_, _, _, _, _, _, _, us, es, A, rs, rfl, gE, od, r1, r50, by omega⟩
            · rw [show (!us'.isEmpty) = true from by cases us'; exact absurd rfl en; rfl]
              have lpos := List.length_pos_iff.mpr en
              have Zd : Z ≠ d := (g.dk.same s8).ned nZ
              refine ⟨.ref Z, rfl, .ref d, rfl, .ref Z, rfl, Z, us', rfl, .inl (SqL.of hZE), d, _, rfl, gE.dk, by omega, by omega, fun v H11 v0 v1 D11 K11 => ?_⟩
              have g11 := gE.take K11 D11
              have hu11 := pr_tk (gE.dk.tk K11) huE
              obtain ⟨u, e2, e3⟩ := getI v0 v1
              obtain ⟨q0, eq0, c, rfl, hcc⟩ := Paired.at hu11 e3
              obtain ⟨qn, qb, qa⟩ := hc' q0 (List.mem_of_getElem? eq0)
              refine ⟨Z, us', v, .ref c, rfl, rfl, SqL.of (K11 _ _ Zd Zd hZE), e2, c, _, rfl, SqT.of hcc, rfl, _, _, rfl, _, _, rfl, rfl, ?_⟩
              clear gE g9 hu11 huE hZE hcc D11 K11
              obtain ⟨ra1, row1, ea1, e11, er1, hra1⟩ := g11.at' p0 p1
              rw [er] at er1
              cases er1
              refine ⟨.ref O, rfl, .int pl, rfl, O, _, pl, .ref ra1, rfl, rfl, SqL.of g11.hO, e11, .inl ⟨rfl, _, SqL.of hra1⟩, .int at', rfl, .ref T, rfl, T, us, rfl, .inl (SqL.of g11.hT), ra1, _, at', _, rfl, rfl, hra1, small1000 (by rw [List.length_map]; omega), t0, by omega, ?_⟩
              rw [insR_map]
              have g12 := g11.row ea1 hra1 (insR row at'.toNat (us.length : Nat))
              generalize upd H11 ra1 (.lst ((insR row at'.toNat (us.length : Nat)).map V.int)) = H12 at g12
              obtain ⟨rb, rowb, eb, e1b, erb, hrb⟩ := g12.at' qb.1 (by rw [List.length_set]; exact qb.2)
              have ne1 : pl.toNat ≠ q0.1.toNat := by omega
              have erb' := erb
              rw [List.getElem?_set_ne ne1] at erb'
              have lrb := od.row_len (List.mem_of_getElem? erb')
              refine ⟨.ref O, rfl, .int q0.1, rfl, O, _, q0.1, .ref rb, rfl, rfl, SqL.of g12.hO, e1b, .inl ⟨rfl, _, SqL.of hrb⟩, .int q0.2, rfl, .ref T, rfl, T, us, rfl, .inl (SqL.of g12.hT), rb, _, q0.2, _, rfl, rfl, hrb, small1000 (by rw [List.length_map]; omega), qa.1, by omega, ?_⟩
              rw [insR_map]
              have g13 := g12.row eb hrb (insR rowb q0.2.toNat (us.length : Nat))
              generalize upd H12 rb (.lst ((insR rowb q0.2.toNat (us.length : Nat)).map V.int)) = H13 at g13
              refine ⟨.ref T, rfl, .inl ⟨rfl, _, SqL.of g13.hT⟩, .int pl, rfl, .int q0.1, rfl, by show 2 ≤ sizeLine; decide, fun c' nc => ?_⟩
              have sc := same_new (o := .tup [.int pl, .int q0.1]) nc
              have g14 := (g13.same sc).tie (c := c') upd_same
              refine ⟨T, us, _, rfl, rfl, (g13.same sc).hT, small1000 (by omega), ?_⟩
              refine ⟨_, _, _, _, _, _, _, us ++ [.ref c'], es ++ [(pl, q0.1)], A, _, rfl, g14, ?_, by rw [List.length_set, List.length_set]; exact r1, by rw [List.length_set, List.length_set]; exact r50, by rw [List.length_append]; show _ + 1 ≤ _; omega⟩
              have lk := od.link (rs' := (rs.set pl.toNat (insR row at'.toNat (us.length : Nat))).set q0.1.toNat (insR rowb q0.2.toNat (us.length : Nat))) (p := pl.toNat) (q := q0.1.toNat) (by rw [List.length_set, List.length_set]) (by omega) (by omega) ne1 (fun i' row' e' => ?_)
              · rw [show ((pl.toNat : Nat) : Int) = pl by omega, show ((q0.1.toNat : Nat) : Int) = q0.1 by omega] at lk
                exact lk
              · have no : ∀ {r : List Int}, r ∈ rs → ((us.length : Nat) : Int) ∉ r := fun hr z => by
                  have := (od.row_in hr _ z).2
                  omega
                by_cases c1 : q0.1.toNat = i'
                · subst c1
                  rw [List.getElem?_set_self (by rw [List.length_set]; omega)] at e'
                  cases e'
                  refine ⟨rowb, erb', fun _ => ⟨fun x => by rw [insR_mem, lu], insR_nd (od.nd _ (List.mem_of_getElem? erb')) (no (List.mem_of_getElem? erb'))⟩, fun z => (z (.inr rfl)).elim⟩
                · rw [List.getElem?_set_ne c1] at e'
                  by_cases c2 : pl.toNat = i'
                  · subst c2
                    rw [List.getElem?_set_self (by omega)] at e'
                    cases e'
                    exact ⟨row, er, fun _ => ⟨fun x => by rw [insR_mem, lu], insR_nd (od.nd _ (List.mem_of_getElem? er)) (no (List.mem_of_getElem? er))⟩, fun z => (z (.inl rfl)).elim⟩
                  · rw [List.getElem?_set_ne c2] at e'
                    exact ⟨row', e', fun z => (z.elim (fun y => c2 y.symm) fun y => c1 y.symm).elim, fun _ => rfl⟩
      · rw [decide_eq_false h1]
        by_cases h3 : wy = 4
        · refine ⟨.int wy, rfl, rfl, true, (by rw [dec_intF, decide_eq_true h3]), ?_⟩
          refine ⟨.ref O, rfl, O, _, rfl, .inl (SqL.of g.hO), .int most, rfl, _, _, rfl, rfl, _, rfl, ?_⟩
          by_cases h2 : (((A.map V.ref).length : Nat) : Int) < most
          · rw [decide_eq_true h2]
            refine ⟨.ref O, rfl, .inl ⟨rfl, _, SqL.of g.hO⟩, Nat.zero_le _, fun p np => ?_⟩
            refine ⟨O, _, _, rfl, rfl, same_new np _ _ g.hO, small1000 (by omega), ?_⟩
            exact ⟨_, _, _, _, _, _, _, us, es, A ++ [p], rs ++ [[]], rfl, g.more np [], od.more, by rw [List.length_append]; show 1 ≤ _ + 1; omega, by rw [List.length_append]; show _ + 1 ≤ 50; omega, by omega⟩
          · rw [decide_eq_false h2]
            refine ⟨.ref T, rfl, .ref O, rfl, .int pl, rfl, .int at', rfl, T, O, pl, at', us, es, A, rs, rfl, g.hT, g.hu, g.hO, g.rw', od, by omega, by omega, ⟨p0, p1⟩, ⟨t0, by omega⟩, fun L ws cs H8 s8 nL hL hw hc lc => ?_⟩
            have lw := Paired.length hw
            refine ⟨L, rfl, ⟨ws, SqL.of hL⟩, fun Z nZ => ?_⟩
            refine lc_list (xs := ws) (fun j H' => ∃ (us' : List V) (cs' : List (Int × Int)), H' Z = some (.lst us') ∧ Paired (PrV H') us' cs' ∧ (∀ c ∈ cs', c.1 ≠ pl ∧ (0 ≤ c.1 ∧ c.1 < (rs.length : Int)) ∧ (0 ≤ c.2 ∧ c.2 ≤ 1000)) ∧ us'.length ≤ j ∧ Same H8 H') ⟨[], [], upd_same, .nil, fun c hc => (by cases hc), Nat.le_refl _, same_new nZ⟩ (fun j H' _ h => by
              obtain ⟨_, _, _, _, _, _, s⟩ := h
              exact SqL.of (s _ _ hL)) ?_ ?_
            · rintro j x H9 ex ⟨us', cs', hZ, hu', hc', lu', s9⟩
              have jl := (List.getElem?_eq_some_iff.mp ex).1
              obtain ⟨q0, eq0, c, rfl, hcc⟩ := Paired.at hw ex
              refine ⟨rfl, .ref c, rfl, c, _, 0, .int q0.1, rfl, rfl, SqT.of (s9 _ _ hcc), rfl, .int pl, rfl, rfl, _, rfl, ?_⟩
              rw [dec_intF]
              by_cases e : q0.1 = pl
              · rw [decide_eq_true e]
                exact ⟨us', cs', hZ, hu', hc', by omega, s9⟩
              · rw [decide_eq_false e]
                have tk := tk_lst (ys := us' ++ [.ref c]) hZ
                refine ⟨.ref c, rfl, _, hZ, small1000 (by omega), us' ++ [.ref c], cs' ++ [q0], upd_same, Paired.snoc (pr_tk tk hu') ⟨c, rfl, tk _ _ (s9 _ _ hcc)⟩, fun z hz => ?_, by rw [List.length_append]; show _ + 1 ≤ _; omega, Same.mut s9 nZ⟩
                rcases List.mem_append.mp hz with h | h
                · exact hc' z h
                · rw [List.mem_singleton.mp h]
                  exact ⟨e, hc q0 (List.mem_of_getElem? eq0)⟩
            · rintro H9 ⟨us', cs', hZ, hu', hc', lu', s9⟩
              have g9 := (g.same s8).same s9
              refine ⟨.ref Z, rfl, Nat.zero_le _, fun E nE => ⟨Z, E, _, rfl, rfl, SqL.of (same_new nE _ _ hZ), SqL.of upd_same, _, rfl, ?_⟩⟩
              have sE := same_new (o := .lst []) nE
              have gE := g9.same sE
              have hZE := sE _ _ hZ
              have huE := pr_tk (Same.tk sE) hu'
              generalize upd H9 E (.lst []) = H10 at gE hZE huE
              by_cases en : us' = []
              · rw [en]
                exact ⟨_, _, _, _, _, _, _, us, es, A, rs, rfl, gE, od, r1, r50, by omega⟩
              · rw [show (!us'.isEmpty) = true from by cases us'; exact absurd rfl en; rfl]
                have lpos := List.length_pos_iff.mpr en
                have Zd : Z ≠ d := (g.dk.same s8).ned nZ
                refine ⟨.ref Z, rfl, .ref d, rfl, .ref Z, rfl, Z, us', rfl, .inl (SqL.of hZE), d, _, rfl, gE.dk, by omega, by omega, fun v H11 v0 v1 D11 K11 => ?_⟩
                have g11 := gE.take K11 D11
                have hu11 := pr_tk (gE.dk.tk K11) huE
                obtain ⟨u, e2, e3⟩ := getI v0 v1
                obtain ⟨q0, eq0, c, rfl, hcc⟩ := Paired.at hu11 e3
                obtain ⟨qn, qb, qa⟩ := hc' q0 (List.mem_of_getElem? eq0)
                refine ⟨Z, us', v, .ref c, rfl, rfl, SqL.of (K11 _ _ Zd Zd hZE), e2, c, _, rfl, SqT.of hcc, rfl, _, _, rfl, _, _, rfl, rfl, ?_⟩
                clear gE g9 hu11 huE hZE hcc D11 K11
                obtain ⟨ra1, row1, ea1, e11, er1, hra1⟩ := g11.at' p0 p1
                rw [er] at er1
                cases er1
                refine ⟨.ref O, rfl, .int pl, rfl, O, _, pl, .ref ra1, rfl, rfl, SqL.of g11.hO, e11, .inl ⟨rfl, _, SqL.of hra1⟩, .int at', rfl, .ref T, rfl, T, us, rfl, .inl (SqL.of g11.hT), ra1, _, at', _, rfl, rfl, hra1, small1000 (by rw [List.length_map]; omega), t0, by omega, ?_⟩
                rw [insR_map]
                have g12 := g11.row ea1 hra1 (insR row at'.toNat (us.length : Nat))
                generalize upd H11 ra1 (.lst ((insR row at'.toNat (us.length : Nat)).map V.int)) = H12 at g12
                obtain ⟨rb, rowb, eb, e1b, erb, hrb⟩ := g12.at' qb.1 (by rw [List.length_set]; exact qb.2)
                have ne1 : pl.toNat ≠ q0.1.toNat := by omega
                have erb' := erb
                rw [List.getElem?_set_ne ne1] at erb'
                have lrb := od.row_len (List.mem_of_getElem? erb')
                refine ⟨.ref O, rfl, .int q0.1, rfl, O, _, q0.1, .ref rb, rfl, rfl, SqL.of g12.hO, e1b, .inl ⟨rfl, _, SqL.of hrb⟩, .int q0.2, rfl, .ref T, rfl, T, us, rfl, .inl (SqL.of g12.hT), rb, _, q0.2, _, rfl, rfl, hrb, small1000 (by rw [List.length_map]; omega), qa.1, by omega, ?_⟩
                rw [insR_map]
                have g13 := g12.row eb hrb (insR rowb q0.2.toNat (us.length : Nat))
                generalize upd H12 rb (.lst ((insR rowb q0.2.toNat (us.length : Nat)).map V.int)) = H13 at g13
                refine ⟨.ref T, rfl, .inl ⟨rfl, _, SqL.of g13.hT⟩, .int pl, rfl, .int q0.1, rfl, by show 2 ≤ sizeLine; decide, fun c' nc => ?_⟩
                have sc := same_new (o := .tup [.int pl, .int q0.1]) nc
                have g14 := (g13.same sc).tie (c := c') upd_same
                refine ⟨T, us, _, rfl, rfl, (g13.same sc).hT, small1000 (by omega), ?_⟩
                refine ⟨_, _, _, _, _, _, _, us ++ [.ref c'], es ++ [(pl, q0.1)], A, _, rfl, g14, ?_, by rw [List.length_set, List.length_set]; exact r1, by rw [List.length_set, List.length_set]; exact r50, by rw [List.length_append]; show _ + 1 ≤ _; omega⟩
                have lk := od.link (rs' := (rs.set pl.toNat (insR row at'.toNat (us.length : Nat))).set q0.1.toNat (insR rowb q0.2.toNat (us.length : Nat))) (p := pl.toNat) (q := q0.1.toNat) (by rw [List.length_set, List.length_set]) (by omega) (by omega) ne1 (fun i' row' e' => ?_)
                · rw [show ((pl.toNat : Nat) : Int) = pl by omega, show ((q0.1.toNat : Nat) : Int) = q0.1 by omega] at lk
                  exact lk
                · have no : ∀ {r : List Int}, r ∈ rs → ((us.length : Nat) : Int) ∉ r := fun hr z => by
                    have := (od.row_in hr _ z).2
                    omega
                  by_cases c1 : q0.1.toNat = i'
                  · subst c1
                    rw [List.getElem?_set_self (by rw [List.length_set]; omega)] at e'
                    cases e'
                    refine ⟨rowb, erb', fun _ => ⟨fun x => by rw [insR_mem, lu], insR_nd (od.nd _ (List.mem_of_getElem? erb')) (no (List.mem_of_getElem? erb'))⟩, fun z => (z (.inr rfl)).elim⟩
                  · rw [List.getElem?_set_ne c1] at e'
                    by_cases c2 : pl.toNat = i'
                    · subst c2
                      rw [List.getElem?_set_self (by omega)] at e'
                      cases e'
                      exact ⟨row, er, fun _ => ⟨fun x => by rw [insR_mem, lu], insR_nd (od.nd _ (List.mem_of_getElem? er)) (no (List.mem_of_getElem? er))⟩, fun z => (z (.inl rfl)).elim⟩
                    · rw [List.getElem?_set_ne c2] at e'
                      exact ⟨row', e', fun z => (z.elim (fun y => c2 y.symm) fun y => c1 y.symm).elim, fun _ => rfl⟩
        · refine ⟨.int wy, rfl, rfl, false, (by rw [dec_intF, decide_eq_false h3]), ?_⟩
          refine ⟨.ref T, rfl, .ref O, rfl, .int pl, rfl, .int at', rfl, T, O, pl, at', us, es, A, rs, rfl, g.hT, g.hu, g.hO, g.rw', od, by omega, by omega, ⟨p0, p1⟩, ⟨t0, by omega⟩, fun L ws cs H8 s8 nL hL hw hc lc => ?_⟩
          have lw := Paired.length hw
          refine ⟨L, rfl, ⟨ws, SqL.of hL⟩, fun Z nZ => ?_⟩
          refine lc_list (xs := ws) (fun j H' => ∃ (us' : List V) (cs' : List (Int × Int)), H' Z = some (.lst us') ∧ Paired (PrV H') us' cs' ∧ (∀ c ∈ cs', c.1 ≠ pl ∧ (0 ≤ c.1 ∧ c.1 < (rs.length : Int)) ∧ (0 ≤ c.2 ∧ c.2 ≤ 1000)) ∧ us'.length ≤ j ∧ Same H8 H') ⟨[], [], upd_same, .nil, fun c hc => (by cases hc), Nat.le_refl _, same_new nZ⟩ (fun j H' _ h => by
            obtain ⟨_, _, _, _, _, _, s⟩ := h
            exact SqL.of (s _ _ hL)) ?_ ?_
          · rintro j x H9 ex ⟨us', cs', hZ, hu', hc', lu', s9⟩
            have jl := (List.getElem?_eq_some_iff.mp ex).1
            obtain ⟨q0, eq0, c, rfl, hcc⟩ := Paired.at hw ex
            refine ⟨rfl, .ref c, rfl, c, _, 0, .int q0.1, rfl, rfl, SqT.of (s9 _ _ hcc), rfl, .int pl, rfl, rfl, _, rfl, ?_⟩
            rw [dec_intF]
            by_cases e : q0.1 = pl
            · rw [decide_eq_true e]
              exact ⟨us', cs', hZ, hu', hc', by omega, s9⟩
            · rw [decide_eq_false e]
              have tk := tk_lst (ys := us' ++ [.ref c]) hZ
              refine ⟨.ref c, rfl, _, hZ, small1000 (by omega), us' ++ [.ref c], cs' ++ [q0], upd_same, Paired.snoc (pr_tk tk hu') ⟨c, rfl, tk _ _ (s9 _ _ hcc)⟩, fun z hz => ?_, by rw [List.length_append]; show _ + 1 ≤ _; omega, Same.mut s9 nZ⟩
              rcases List.mem_append.mp hz with h | h
              · exact hc' z h
              · rw [List.mem_singleton.mp h]
                exact ⟨e, hc q0 (List.mem_of_getElem? eq0)⟩
          · rintro H9 ⟨us', cs', hZ, hu', hc', lu', s9⟩
            have g9 := (g.same s8).same s9
            refine ⟨.ref Z, rfl, Nat.zero_le _, fun E nE => ⟨Z, E, _, rfl, rfl, SqL.of (same_new nE _ _ hZ), SqL.of upd_same, _, rfl, ?_⟩⟩
            have sE := same_new (o := .lst []) nE
            have gE := g9.same sE
            have hZE := sE _ _ hZ
            have huE := pr_tk (Same.tk sE) hu'
            generalize upd H9 E (.lst []) = H10 at gE hZE huE
            by_cases en : us' = []
            · rw [en]
              exact ⟨_, _, _, _, _, _, _, us, es, A, rs, rfl, gE, od, r1, r50, by omega⟩
            · rw [show (!us'.isEmpty) = true from by cases us'; exact absurd rfl en; rfl]
              have lpos := List.length_pos_iff.mpr en
              have Zd : Z ≠ d := (g.dk.same s8).ned nZ
              refine ⟨.ref Z, rfl, .ref d, rfl, .ref Z, rfl, Z, us', rfl, .inl (SqL.of hZE), d, _, rfl, gE.dk, by omega, by omega, fun v H11 v0 v1 D11 K11 => ?_⟩
              have g11 := gE.take K11 D11
              have hu11 := pr_tk (gE.dk.tk K11) huE
              obtain ⟨u, e2, e3⟩ := getI v0 v1
              obtain ⟨q0, eq0, c, rfl, hcc⟩ := Paired.at hu11 e3
              obtain ⟨qn, qb, qa⟩ := hc' q0 (List.mem_of_getElem? eq0)
              refine ⟨Z, us', v, .ref c, rfl, rfl, SqL.of (K11 _ _ Zd Zd hZE), e2, c, _, rfl, SqT.of hcc, rfl, _, _, rfl, _, _, rfl, rfl, ?_⟩
              clear gE g9 hu11 huE hZE hcc D11 K11
              obtain ⟨ra1, row1, ea1, e11, er1, hra1⟩ := g11.at' p0 p1
              rw [er] at er1
              cases er1
              refine ⟨.ref O, rfl, .int pl, rfl, O, _, pl, .ref ra1, rfl, rfl, SqL.of g11.hO, e11, .inl ⟨rfl, _, SqL.of hra1⟩, .int at', rfl, .ref T, rfl, T, us, rfl, .inl (SqL.of g11.hT), ra1, _, at', _, rfl, rfl, hra1, small1000 (by rw [List.length_map]; omega), t0, by omega, ?_⟩
              rw [insR_map]
              have g12 := g11.row ea1 hra1 (insR row at'.toNat (us.length : Nat))
              generalize upd H11 ra1 (.lst ((insR row at'.toNat (us.length : Nat)).map V.int)) = H12 at g12
              obtain ⟨rb, rowb, eb, e1b, erb, hrb⟩ := g12.at' qb.1 (by rw [List.length_set]; exact qb.2)
              have ne1 : pl.toNat ≠ q0.1.toNat := by omega
              have erb' := erb
              rw [List.getElem?_set_ne ne1] at erb'
              have lrb := od.row_len (List.mem_of_getElem? erb')
              refine ⟨.ref O, rfl, .int q0.1, rfl, O, _, q0.1, .ref rb, rfl, rfl, SqL.of g12.hO, e1b, .inl ⟨rfl, _, SqL.of hrb⟩, .int q0.2, rfl, .ref T, rfl, T, us, rfl, .inl (SqL.of g12.hT), rb, _, q0.2, _, rfl, rfl, hrb, small1000 (by rw [List.length_map]; omega), qa.1, by omega, ?_⟩
              rw [insR_map]
              have g13 := g12.row eb hrb (insR rowb q0.2.toNat (us.length : Nat))
              generalize upd H12 rb (.lst ((insR rowb q0.2.toNat (us.length : Nat)).map V.int)) = H13 at g13
              refine ⟨.ref T, rfl, .inl ⟨rfl, _, SqL.of g13.hT⟩, .int pl, rfl, .int q0.1, rfl, by show 2 ≤ sizeLine; decide, fun c' nc => ?_⟩
              have sc := same_new (o := .tup [.int pl, .int q0.1]) nc
              have g14 := (g13.same sc).tie (c := c') upd_same
              refine ⟨T, us, _, rfl, rfl, (g13.same sc).hT, small1000 (by omega), ?_⟩
              refine ⟨_, _, _, _, _, _, _, us ++ [.ref c'], es ++ [(pl, q0.1)], A, _, rfl, g14, ?_, by rw [List.length_set, List.length_set]; exact r1, by rw [List.length_set, List.length_set]; exact r50, by rw [List.length_append]; show _ + 1 ≤ _; omega⟩
              have lk := od.link (rs' := (rs.set pl.toNat (insR row at'.toNat (us.length : Nat))).set q0.1.toNat (insR rowb q0.2.toNat (us.length : Nat))) (p := pl.toNat) (q := q0.1.toNat) (by rw [List.length_set, List.length_set]) (by omega) (by omega) ne1 (fun i' row' e' => ?_)
              · rw [show ((pl.toNat : Nat) : Int) = pl by omega, show ((q0.1.toNat : Nat) : Int) = q0.1 by omega] at lk
                exact lk
              · have no : ∀ {r : List Int}, r ∈ rs → ((us.length : Nat) : Int) ∉ r := fun hr z => by
                  have := (od.row_in hr _ z).2
                  omega
                by_cases c1 : q0.1.toNat = i'
                · subst c1
                  rw [List.getElem?_set_self (by rw [List.length_set]; omega)] at e'
                  cases e'
                  refine ⟨rowb, erb', fun _ => ⟨fun x => by rw [insR_mem, lu], insR_nd (od.nd _ (List.mem_of_getElem? erb')) (no (List.mem_of_getElem? erb'))⟩, fun z => (z (.inr rfl)).elim⟩
                · rw [List.getElem?_set_ne c1] at e'
                  by_cases c2 : pl.toNat = i'
                  · subst c2
                    rw [List.getElem?_set_self (by omega)] at e'
                    cases e'
                    exact ⟨row, er, fun _ => ⟨fun x => by rw [insR_mem, lu], insR_nd (od.nd _ (List.mem_of_getElem? er)) (no (List.mem_of_getElem? er))⟩, fun z => (z (.inl rfl)).elim⟩
                  · rw [List.getElem?_set_ne c2] at e'
                    exact ⟨row', e', fun z => (z.elim (fun y => c2 y.symm) fun y => c1 y.symm).elim, fun _ => rfl⟩
    · rintro σ' H4 ⟨y5, y6, y7, y8, y9, y11, y12, us, es, A, rs, rfl, g, od, r1, r50, le⟩
      refine ⟨.ref T, rfl, .ref O, rfl, by show 2 ≤ sizeLine; decide, fun r nr => ?_⟩
      exact q r T O us es A rs _ upd_same (g.same (same_new nr)) od r1 r50 (by omega)
end
/-! ### flats: turned, web, crossed -/
/-! ### the law: other webs -/
theorem cut_take {xs : List V} {k : Nat} (h : k ≤ xs.length) : cutV xs none (some (k : Int)) = xs.take k := by
  unfold cutV
  rw [HT.sIx_none, HT.sIx_nat, Nat.min_eq_left h, List.drop_zero]
  rfl
theorem cut_drop {xs : List V} {k : Nat} (h : k ≤ xs.length) : cutV xs (some (k : Int)) none = xs.drop k := by
  unfold cutV
  rw [HT.sIx_none, HT.sIx_nat, Nat.min_eq_left h]
  exact List.take_of_length_le (by rw [List.length_drop]; omega)
theorem pickK (v : Int) (h0 : 0 ≤ v) (h1 : v < 2) : ∃ fo : Bool, atI [V.str "friend", V.str "foe"] v = some (.str (kindS fo)) := by
  have h01 : v = 0 ∨ v = 1 := by omega
  rcases h01 with e | e <;> subst e
  · exact ⟨false, rfl⟩
  · exact ⟨true, rfl⟩
theorem Ord.perm {rs rs' : List (List Int)} {es : List (Int × Int)} (h : Ord rs es) (hl : rs'.length = rs.length) (each : ∀ (i : Nat) (row' : List Int), rs'[i]? = some row' → ∃ row, rs[i]? = some row ∧ row'.Perm row) : Ord rs' es := by
  refine ⟨fun e he => by rw [hl]; exact h.ends e he, fun row hr => ?_, fun i row e x => ?_⟩
  · obtain ⟨i, hi⟩ := List.getElem?_of_mem hr
    obtain ⟨row0, e0, p⟩ := each i row hi
    exact p.nodup_iff.mpr (h.nd row0 (List.mem_of_getElem? e0))
  · obtain ⟨row0, e0, p⟩ := each i row e
    rw [p.mem_iff]
    exact h.mem i row0 e0 x
def rLenKF (K : PySem.W.Frag) : List V → Hp → VK → Prop := fun xs H Q => ∃ p ys, xs = [V.ref p] ∧ (SqL K H p ys ∨ SqT K H p ys) ∧ Q (V.int (ys.length : Nat)) H
def rotP (row : List Int) (k : Nat) : List Int := row.drop k ++ row.take k
theorem rotP_perm (row : List Int) (k : Nat) : (rotP row k).Perm row := by
  unfold rotP
  refine List.perm_append_comm.trans ?_
  rw [List.take_append_drop]
/-- the ties of a web over so drawn pairs, each one way or the other -/
def TwE (ts : List Tie) (es : List (Int × Int)) : Prop := ts.length = es.length ∧ ∀ (k : Nat) (t : Tie) (e : Int × Int), ts[k]? = some t → es[k]? = some e → (t.one = e.1 ∧ t.other = e.2) ∨ (t.one = e.2 ∧ t.other = e.1)
theorem TwE.snoc {ts : List Tie} {es : List (Int × Int)} (h : TwE ts es) {t : Tie} {e : Int × Int} (j : (t.one = e.1 ∧ t.other = e.2) ∨ (t.one = e.2 ∧ t.other = e.1)) : TwE (ts ++ [t]) (es ++ [e]) := by
  refine ⟨by simp [h.1], fun k t' e' h1 h2 => ?_⟩
  by_cases hk : k < ts.length
  · rw [List.getElem?_append_left hk] at h1
    rw [List.getElem?_append_left (by rw [← h.1]; exact hk)] at h2
    exact h.2 k t' e' h1 h2
  · have hk2 := (List.getElem?_eq_some_iff.mp h1).1
    rw [List.length_append, List.length_singleton] at hk2
    rw [List.getElem?_append_right (by omega), show k - ts.length = 0 by omega] at h1
    rw [List.getElem?_append_right (by rw [← h.1]; omega), show k - es.length = 0 by rw [← h.1]; omega] at h2
    cases h1
    cases h2
    exact j
theorem Grw.oth {H0 H : Hp} {d T O L : Addr} {us xs ys : List V} {es : List (Int × Int)} {A : List Addr} {rs : List (List Int)} (g : Grw H0 d T O H us es A rs) (LA : ∀ a ∈ A, a ≠ L) (LT : T ≠ L) (LO : O ≠ L) (Ld : L ≠ d) (L0 : H0 L = none) (h : H L = some (.lst xs)) : Grw H0 d T O (upd H L (.lst ys)) us es A rs :=
  ⟨by rw [upd_ne LT]; exact g.hT, pr_tk (tk_lst h) g.hu, by rw [upd_ne LO]; exact g.hO, g.rw'.ext fun a ha _ h => by rw [upd_ne (LA a ha)]; exact h, g.TO, g.Td, g.Od, g.T0, g.O0, g.aA, g.dk_ne Ld, g.kp.mut L0⟩
def spTurned : Sp := fun vs H Q _ => ∃ (H0 : Hp) (d T O : Addr) (us : List V) (es : List (Int × Int)) (A : List Addr) (rs : List (List Int)), vs = [.ref d, .ref O] ∧ Grw H0 d T O H us es A rs ∧ Ord rs es ∧ rs.length ≤ 100 ∧ es.length ≤ 200 ∧
  ∀ r vs' rs' H', H' r = some (.tup vs') → Paired (IntsV H') vs' rs' → Ord rs' es → rs'.length = rs.length → Grw H0 d T O H' us es A rs → Kp d d H H' → Q (.ref r) H'
def spWebF : Sp := fun vs H Q _ => ∃ (H0 : Hp) (d T O : Addr) (us : List V) (es : List (Int × Int)) (A : List Addr) (rs : List (List Int)) (n : Int), vs = [.ref d, .ref T, .int n] ∧ Grw H0 d T O H us es A rs ∧ es.length ≤ 200 ∧
  ∀ v ts H', WebAt H' v n ts → TwE ts es → Grw H0 d T O H' us es A rs → Kp d d H H' → Q v H'
def spCrossed : Sp := fun vs H Q _ => ∃ (H0 : Hp) (d T O : Addr) (us : List V) (es : List (Int × Int)) (A : List Addr) (rs : List (List Int)), vs = [.ref d, .ref O] ∧ Grw H0 d T O H us es A rs ∧ Ord rs es ∧ rs.length ≤ 100 ∧ es.length ≤ 200 ∧
  ∀ rs' H', Ord rs' es → rs'.length = rs.length → Grw H0 d T O H' us es A rs' → Q .non H'
section
variable {P : Program} {w : World} {K : PySem.W.Frag} {mg : Str → Option Value} {base : Heap}
set_option maxHeartbeats 2000000 in
theorem ok_l_turned {f : Addr} {fd : FuncData} (F : Fun K "_law_turned" "_law_turned" s_l_turned f fd) (M : Free mg) (D_l_take : Df P w K mg base 2 "_law_take" ["_law_deck_here", "_law_most"] spTake) : FnOk P w K mg base CX0 3 f fd ["_law_deck_here", "_law_orders"] spTurned := by
  obtain ⟨f_l_take, fd_l_take, G_l_take, g_l_take, k_l_take, b_l_take⟩ := D_l_take
  refine F.ok sc_l_turned (fun vs H Q E h => ?_) (fun cdv A outer s H vs Q E hr h => ?_)
  · obtain ⟨H0, d, T, O, us, es, A, rs, rfl, _⟩ := h
    rfl
  · obtain ⟨H0, d, T, O, us, es, A, rs, rfl, g, od, lr, le, q⟩ := h
    refine ⟨_, (pss_cons (ps_set (i := 2) sc_l_turned.nd rfl (.inl rfl) (pe_lst pa_nil))
      (pss_cons (ps_for PassesOwn.never rfl (pi_list (pv 1)) (pg_name (i := 3) sc_l_turned.nd rfl (.inl rfl))
        (pss_cons (ps_set (i := 4) sc_l_turned.nd rfl (.inl rfl) (pe_call G_l_take (hr.mono (by decide)) (by rfl) g_l_take k_l_take b_l_take .nil pass0 (pa_cons (pv 0) (pa_cons (pe_op op_add (pe_callB call_len_seq (by rfl) M.len PySem.boot_len (pa_cons (pv 3) pa_nil)) pe_int) pa_nil))))
        (pss_one (ps_expr (pe_bm PySem.F.plainAttrs_list PySem.F.slot_list_append PySem.F.type_list_append mt_append (pv 2) (pa_cons (pe_callTy call_tuple_of (by rfl) M.tuple (by decide +kernel) (pa_cons (pe_op op_cat (pe_slice sl_list (pv 3) (po_some (pv 4)) po_none) (pe_slice sl_list (pv 3) po_none (po_some (pv 4)))) pa_nil)) pa_nil))))))
      (pss_one (ps_ret (pe_callTy call_tuple_of (by rfl) M.tuple (by decide +kernel) (pa_cons (pv 2) pa_nil)))))), ?_⟩
    have lA := g.rw'.len
    refine ⟨Nat.zero_le _, fun L nL => ?_⟩
    have sL := same_new (o := .lst []) nL
    have hL1 : (upd H L (.lst [])) L = some (.lst []) := upd_same
    have g1 := g.same sL
    have Ld : L ≠ d := g.dk.ned nL
    have K1 : Kp d d H (upd H L (.lst [])) := Same.kp sL
    generalize upd H L (.lst []) = H1 at sL hL1 g1 K1
    refine ⟨.ref O, rfl, O, rfl, ⟨_, SqL.of g1.hO⟩, ?_⟩
    refine for_list (xs := A.map V.ref) (fun i σ' H' => ∃ (y3 y4 : Option V) (vs : List V) (rs' : List (List Int)), σ' = [some (.ref d), some (.ref O), some (.ref L), y3, y4] ∧ H' L = some (.lst vs) ∧ Paired (IntsV H') vs rs' ∧ rs'.length = i ∧ (∀ (j : Nat) (row' : List Int), rs'[j]? = some row' → ∃ row, rs[j]? = some row ∧ row'.Perm row) ∧ Grw H0 d T O H' us es A rs ∧ Kp d d H H') ⟨none, none, [], [], rfl, hL1, .nil, rfl, fun j row' e => by simp at e, g1, K1⟩ (fun i σ' H' _ h => by
      obtain ⟨_, _, _, _, _, _, _, _, _, g, _⟩ := h
      exact SqL.of g.hO) ?_ ?_
    · rintro i x σ' H2 ex ⟨y3, y4, vs, rs', rfl, hL, hv, li, each, g2, K2⟩
      have lv := Paired.length hv
      rw [List.getElem?_map] at ex
      obtain ⟨ra, ea, rfl⟩ := Option.map_eq_some_iff.mp ex
      obtain ⟨row, er, hra⟩ := g2.rw'.each _ _ ea
      have hlt := (List.getElem?_eq_some_iff.mp er).1
      have lrow := od.row_len (List.mem_of_getElem? er)
      have had := g2.aA ra (List.mem_of_getElem? ea)
      refine ⟨.ref d, rfl, .ref ra, rfl, ra, _, rfl, .inl (SqL.of hra), _, _, rfl, rfl, d, _, rfl, g2.dk, by omega, by rw [List.length_map]; omega, fun at' H3 a0 a1 D3 K3 => ?_⟩
      rw [List.length_map] at a1
      have g3 := g2.take K3 D3
      have hra3 := K3 _ _ had.2.2.1 had.2.2.1 hra
      have hL3 := K3 _ _ Ld Ld hL
      have hv3 : Paired (IntsV H3) vs rs' := Paired.mono (fun _ _ x => x.tk (g2.dk.tk K3)) hv
      obtain ⟨k, rfl⟩ : ∃ k : Nat, at' = (k : Int) := ⟨at'.toNat, by omega⟩
      have kl : k ≤ (row.map V.int).length := by rw [List.length_map]; omega
      obtain ⟨c1, hc1⟩ : ∃ c1, c1 = cutV (row.map V.int) (some (k : Int)) none := ⟨_, rfl⟩
      obtain ⟨c2, hc2⟩ : ∃ c2, c2 = cutV (row.map V.int) none (some (k : Int)) := ⟨_, rfl⟩
      have ec : c1 ++ c2 = (rotP row k).map V.int := by
        rw [hc1, hc2, cut_drop kl, cut_take kl]
        unfold rotP
        rw [List.map_append, List.map_drop, List.map_take]
      have lc : c1.length + c2.length ≤ 800 := by
        have h1 := cutV_length (row.map V.int) (some (k : Int)) none
        have h2 := cutV_length (row.map V.int) none (some (k : Int))
        rw [List.length_map] at h1 h2
        rw [hc1, hc2]
        omega
      refine ⟨.ref L, rfl, .inl ⟨rfl, _, SqL.of hL3⟩, .ref ra, rfl, .int k, rfl, k, rfl, ra, _, rfl, SqL.of hra3, fun p1 n1 => ?_⟩
      rw [← hc1]
      have s4 := same_new (o := .lst c1) n1
      refine ⟨.ref ra, rfl, .int k, rfl, k, rfl, ra, _, rfl, SqL.of (s4 _ _ hra3), fun p2 n2 => ?_⟩
      rw [← hc2]
      have s5 := same_new (o := .lst c2) n2
      refine ⟨p1, p2, _, _, rfl, rfl, s5 _ _ upd_same, upd_same, Nat.le_of_lt (small1000 (by omega)), fun p3 n3 => ?_⟩
      · have s6 := same_new (o := .lst (c1 ++ c2)) n3
        refine ⟨p3, _, rfl, .inl ⟨SqL.of upd_same, fun p4 n4 => ?_⟩⟩
        have s7 := same_new (o := .tup (c1 ++ c2)) n4
        have sA := ((s4.trans s5).trans s6).trans s7
        have h4 : (upd (upd (upd (upd H3 p1 (.lst c1)) p2 (.lst c2)) p3 (.lst (c1 ++ c2))) p4 (.tup (c1 ++ c2))) p4 = some (.tup ((rotP row k).map V.int)) := by rw [upd_same, ec]
        generalize upd (upd (upd (upd H3 p1 (.lst c1)) p2 (.lst c2)) p3 (.lst (c1 ++ c2))) p4 (.tup (c1 ++ c2)) = H7 at sA h4
        have hL7 := sA _ _ hL3
        have tk := tk_lst (ys := vs ++ [.ref p4]) hL7
        have g7 := g3.same sA
        have nL0 := g.kp.free nL Ld Ld
        refine ⟨L, vs, _, rfl, rfl, hL7, small1000 (by omega), ?_⟩
        have LA : ∀ a ∈ A, a ≠ L := fun a ha z => by
          obtain ⟨j, ej⟩ := List.getElem?_of_mem ha
          obtain ⟨_, _, e2⟩ := g.rw'.each _ _ ej
          rw [z, nL] at e2
          cases e2
        have LT : T ≠ L := ne_of_none g.hT nL
        have LO : O ≠ L := ne_of_none g.hO nL
        refine ⟨_, _, vs ++ [.ref p4], rs' ++ [rotP row k], rfl, upd_same, Paired.snoc (Paired.mono (fun _ _ x => x.tk ((Same.tk sA).trans tk)) hv3) ⟨p4, rfl, tk _ _ h4⟩, by simp [li], fun j row' e => ?_, ⟨by rw [upd_ne LT]; exact g7.hT, pr_tk tk g7.hu, by rw [upd_ne LO]; exact g7.hO, g7.rw'.ext fun a ha _ h => by rw [upd_ne (LA a ha)]; exact h, g.TO, g.Td, g.Od, g.T0, g.O0, g.aA, g7.dk_ne Ld, g7.kp.mut nL0⟩, (((K2.trans K3).trans (Same.kp sA)).mut nL)⟩
        by_cases hj : j < rs'.length
        · rw [List.getElem?_append_left hj] at e
          exact each j row' e
        · have hj2 := (List.getElem?_eq_some_iff.mp e).1
          rw [List.length_append, List.length_singleton] at hj2
          rw [List.getElem?_append_right (by omega), show j - rs'.length = 0 by omega] at e
          cases e
          rw [show j = i by omega]
          exact ⟨row, er, rotP_perm row k⟩
    · rintro σ' H2 ⟨y3, y4, vs, rs', rfl, hL, hv, li, each, g2, K2⟩
      rw [List.length_map, lA] at li
      refine ⟨.ref L, rfl, L, _, rfl, .inl ⟨SqL.of hL, fun a na => ?_⟩⟩
      have sa := same_new (o := .tup vs) na
      exact q a vs rs' _ upd_same (Paired.mono (fun _ _ x => x.tk (Same.tk sa)) hv) (od.perm li each) li (g2.same sa) (K2.trans (Same.kp sa))
set_option maxHeartbeats 2000000 in
theorem ok_l_web {f : Addr} {fd : FuncData} (F : Fun K "_law_web" "_law_web" s_l_web f fd) (M : Free mg) (D_l_take : Df P w K mg base 2 "_law_take" ["_law_deck_here", "_law_most"] spTake) : FnOk P w K mg base CX0 3 f fd ["_law_deck_here", "_law_ties", "_law_places"] spWebF := by
  obtain ⟨f_l_take, fd_l_take, G_l_take, g_l_take, k_l_take, b_l_take⟩ := D_l_take
  refine F.ok sc_l_web (fun vs H Q E h => ?_) (fun cdv A outer s H vs Q E hr h => ?_)
  · obtain ⟨H0, d, T, O, us, es, A, rs, n, rfl, _⟩ := h
    rfl
  · obtain ⟨H0, d, T, O, us, es, A, rs, n, rfl, g, le, q⟩ := h
    refine ⟨_, (pss_cons (ps_set (i := 3) sc_l_web.nd rfl (.inl rfl) (pe_lst pa_nil))
      (pss_cons (ps_for PassesOwn.never rfl (pi_list (pv 1)) (pg_tup rfl (pgs_cons (pg_name (i := 4) sc_l_web.nd rfl (.inl rfl)) (pgs_cons (pg_name (i := 5) sc_l_web.nd rfl (.inl rfl)) pgs_nil)))
        (pss_cons (ps_set (i := 6) sc_l_web.nd rfl (.inl rfl) (pe_ix ix_list (pe_lst (pa_cons pe_str (pa_cons pe_str pa_nil))) (pe_call G_l_take (hr.mono (by decide)) (by rfl) g_l_take k_l_take b_l_take .nil pass0 (pa_cons (pv 0) (pa_cons pe_int pa_nil))) (fun _ _ => rfl)))
        (pss_one (ps_expr (pe_bm PySem.F.plainAttrs_list PySem.F.slot_list_append PySem.F.type_list_append mt_append (pv 3) (pa_cons (pe_ix ix_list (pe_lst (pa_cons (pe_tup (pa_cons (pv 4) (pa_cons (pv 5) (pa_cons (pv 6) pa_nil)))) (pa_cons (pe_tup (pa_cons (pv 5) (pa_cons (pv 4) (pa_cons (pv 6) pa_nil)))) pa_nil))) (pe_call G_l_take (hr.mono (by decide)) (by rfl) g_l_take k_l_take b_l_take .nil pass0 (pa_cons (pv 0) (pa_cons pe_int pa_nil))) (fun _ _ => rfl)) pa_nil))))))
      (pss_one (ps_ret (pe_tup (pa_cons (pv 2) (pa_cons (pe_callTy call_tuple_of (by rfl) M.tuple (by decide +kernel) (pa_cons (pv 3) pa_nil)) pa_nil))))))), ?_⟩
    have lu : us.length = es.length := Paired.length g.hu
    refine ⟨Nat.zero_le _, fun L nL => ?_⟩
    have sL := same_new (o := .lst []) nL
    have hL1 : (upd H L (.lst [])) L = some (.lst []) := upd_same
    have g1 := g.same sL
    have Ld : L ≠ d := g.dk.ned nL
    have K1 : Kp d d H (upd H L (.lst [])) := Same.kp sL
    have nL0 := g.kp.free nL Ld Ld
    have LA : ∀ a ∈ A, a ≠ L := fun a ha z => by
      obtain ⟨j, ej⟩ := List.getElem?_of_mem ha
      obtain ⟨_, _, e2⟩ := g.rw'.each _ _ ej
      rw [z, nL] at e2
      cases e2
    have LT : T ≠ L := ne_of_none g.hT nL
    have LO : O ≠ L := ne_of_none g.hO nL
    generalize upd H L (.lst []) = H1 at sL hL1 g1 K1
    refine ⟨.ref T, rfl, T, rfl, ⟨_, SqL.of g1.hT⟩, ?_⟩
    refine for_list (xs := us) (fun i σ' H' => ∃ (y4 y5 y6 : Option V) (vs : List V) (ts : List Tie), σ' = [some (.ref d), some (.ref T), some (.int n), some (.ref L), y4, y5, y6] ∧ H' L = some (.lst vs) ∧ Paired (TieV H') vs ts ∧ TwE ts (es.take i) ∧ Grw H0 d T O H' us es A rs ∧ Kp d d H H') ⟨none, none, none, [], [], rfl, hL1, .nil, ⟨rfl, fun k t e h => by simp at h⟩, g1, K1⟩ (fun i σ' H' _ h => by
      obtain ⟨_, _, _, _, _, _, _, _, _, g, _⟩ := h
      exact SqL.of g.hT) ?_ ?_
    · rintro i x σ' H2 ex ⟨y4, y5, y6, vs, ts, rfl, hL, hv, tw, g2, K2⟩
      have lv := Paired.length hv
      obtain ⟨e, ee, c, rfl, hc⟩ := Paired.at g2.hu ex
      have il := (List.getElem?_eq_some_iff.mp ee).1
      have lts := tw.1
      rw [List.length_take] at lts
      refine ⟨c, _, rfl, SqT.of hc, rfl, _, _, rfl, _, _, rfl, rfl, ?_⟩
      refine ⟨by show 2 ≤ sizeLine; decide, fun p np => ?_⟩
      have sp := same_new (o := .lst [.str "friend", .str "foe"]) np
      have g3 := g2.same sp
      have pd := g2.dk.ned np
      refine ⟨.ref d, rfl, d, 2, rfl, g3.dk, by decide, by decide, fun v H3 v0 v1 D3 K3 => ?_⟩
      obtain ⟨fo, ef⟩ := pickK v v0 v1
      refine ⟨p, _, v, _, rfl, rfl, SqL.of (K3 _ _ pd pd upd_same), ef, ?_⟩
      have g4 := g3.take K3 D3
      have hL3 := K3 _ _ Ld Ld (sp _ _ hL)
      have hv3 := ties_tk (g3.dk.tk K3) (ties_tk (Same.tk sp) hv)
      have K23 := (K2.trans (Same.kp sp)).trans K3
      clear g3 sp K3 D3 hv hL g2 np hc
      refine ⟨.ref L, rfl, .inl ⟨rfl, _, SqL.of hL3⟩, .int e.1, rfl, .int e.2, rfl, .str (kindS fo), rfl, by show 3 ≤ sizeLine; decide, fun c1 n1 => ?_⟩
      have s5 := same_new (o := .tup [.int e.1, .int e.2, .str (kindS fo)]) n1
      refine ⟨.int e.2, rfl, .int e.1, rfl, .str (kindS fo), rfl, by show 3 ≤ sizeLine; decide, fun c2 n2 => ?_⟩
      have s6 := same_new (o := .tup [.int e.2, .int e.1, .str (kindS fo)]) n2
      refine ⟨by show 2 ≤ sizeLine; decide, fun p2 np2 => ?_⟩
      have s7 := same_new (o := .lst [.ref c1, .ref c2]) np2
      have h1 := s7 _ _ (s6 _ _ (upd_same (H := H3) (a := c1) (o := .tup [.int e.1, .int e.2, .str (kindS fo)])))
      have h2 := s7 _ _ (upd_same (H := upd H3 c1 (.tup [.int e.1, .int e.2, .str (kindS fo)])) (a := c2) (o := .tup [.int e.2, .int e.1, .str (kindS fo)]))
      have hp2 := upd_same (H := upd (upd H3 c1 (.tup [.int e.1, .int e.2, .str (kindS fo)])) c2 (.tup [.int e.2, .int e.1, .str (kindS fo)])) (a := p2) (o := .lst [.ref c1, .ref c2])
      have s57 := (s5.trans s6).trans s7
      have p2d : p2 ≠ d := ((g4.dk.same s5).same s6).ned np2
      have g5 := g4.same s57
      generalize upd (upd (upd H3 c1 (.tup [.int e.1, .int e.2, .str (kindS fo)])) c2 (.tup [.int e.2, .int e.1, .str (kindS fo)])) p2 (.lst [.ref c1, .ref c2]) = H4 at h1 h2 hp2 s57 g5
      refine ⟨.ref d, rfl, d, 2, rfl, g5.dk, by decide, by decide, fun w H5 w0 w1 D5 K5 => ?_⟩
      have g6 := g5.take K5 D5
      have tk5 := g5.dk.tk K5
      have hL5 := K5 _ _ Ld Ld (s57 _ _ hL3)
      have hv5 := ties_tk tk5 (ties_tk (Same.tk s57) hv3)
      have h1 := tk5 _ _ h1
      have h2 := tk5 _ _ h2
      obtain ⟨cc, t, ec, hcc, jt⟩ : ∃ (cc : Addr) (t : Tie), atI [V.ref c1, V.ref c2] w = some (.ref cc) ∧ H5 cc = some (.tup [.int t.one, .int t.other, .str (kindS t.foe)]) ∧ ((t.one = e.1 ∧ t.other = e.2) ∨ (t.one = e.2 ∧ t.other = e.1)) := by
        have h01 : w = 0 ∨ w = 1 := by omega
        rcases h01 with z | z <;> subst z
        · exact ⟨c1, ⟨e.1, e.2, fo⟩, rfl, h1, .inl ⟨rfl, rfl⟩⟩
        · exact ⟨c2, ⟨e.2, e.1, fo⟩, rfl, h2, .inr ⟨rfl, rfl⟩⟩
      refine ⟨p2, _, w, .ref cc, rfl, rfl, SqL.of (K5 _ _ p2d p2d hp2), ec, L, vs, _, rfl, rfl, hL5, small1000 (by omega), ?_⟩
      have tk := tk_lst (ys := vs ++ [.ref cc]) hL5
      refine ⟨_, _, _, vs ++ [.ref cc], ts ++ [t], rfl, upd_same, Paired.snoc (ties_tk tk hv5) ⟨cc, rfl, tk _ _ hcc⟩, ?_, g6.oth LA LT LO Ld nL0 hL5, ((K23.trans (Same.kp s57)).trans K5).mut nL⟩
      rw [List.take_add_one, ee]
      exact tw.snoc jt
    · rintro σ' H2 ⟨y4, y5, y6, vs, ts, rfl, hL, hv, tw, g2, K2⟩
      rw [lu, List.take_length] at tw
      refine ⟨.int n, rfl, .ref L, rfl, L, vs, rfl, .inl ⟨SqL.of hL, fun e ne => ⟨by show 2 ≤ sizeLine; decide, fun a na => ?_⟩⟩⟩
      have s2 := (same_new (o := .tup vs) ne).trans (same_new (o := .tup [.int n, .ref e]) na)
      exact q _ ts _ ⟨a, e, vs, rfl, upd_same, same_new na _ _ upd_same, ties_tk (Same.tk s2) hv⟩ tw (g2.same s2) (K2.trans (Same.kp s2))
set_option maxHeartbeats 2000000 in
theorem ok_l_crossed {f : Addr} {fd : FuncData} (F : Fun K "_law_crossed" "_law_crossed" s_l_crossed f fd) (M : Free mg) (D_l_take : Df P w K mg base 2 "_law_take" ["_law_deck_here", "_law_most"] spTake) : FnOk P w K mg base CX0 3 f fd ["_law_deck_here", "_law_orders"] spCrossed := by
  obtain ⟨f_l_take, fd_l_take, G_l_take, g_l_take, k_l_take, b_l_take⟩ := D_l_take
  refine F.ok sc_l_crossed (fun vs H Q E h => ?_) (fun cdv A outer s H vs Q E hr h => ?_)
  · obtain ⟨H0, d, T, O, us, es, A, rs, rfl, _⟩ := h
    rfl
  · obtain ⟨H0, d, T, O, us, es, A, rs, rfl, g, od, lr, le, q⟩ := h
    refine ⟨_, (pss_cons (ps_setLc (i := 2) (own := [("_law_place", 3)]) (g := (gName 3)) (te := tVar 3) rfl sc_l_crossed.nd rfl rfl (sw_true rfl rfl rfl (by decide +kernel)) (pi_range1 (by rfl) M.range (pa_cons (pe_callB call_len_seq (by rfl) M.len PySem.boot_len (pa_cons (pv 1) pa_nil)) pa_nil)) (blkOk_by (N := N_l_crossed) (sc := defScope s_l_crossed) (own := [("_law_place", 3)]) (by decide +kernel)) (fun _ _ _ _ _ => (pg_name (i := 3) sc_l_crossed.nd rfl (.inl rfl))) (fun _ _ _ _ _ => (pts_one (pt_cmpR op_gt (pe_callB (r := rLenKF K) call_len_seq (by rfl) M.len PySem.boot_len (pa_cons (pe_ix (r := rIxL K) ix_list (pv 1) (pv 3) (fun _ _ => rfl)) pa_nil)) pe_int (nomark _)))) (fun _ _ _ _ _ => (pv 3)))
      (pss_one (ps_if (pt_cmpR (op_neE hr.units0) (pv 2) (pe_lst pa_nil) (nomark _))
        (pss_cons (ps_set (i := 3) sc_l_crossed.nd rfl (.inl rfl) (pe_ix ix_list (pv 2) (pe_call G_l_take (hr.mono (by decide)) (by rfl) g_l_take k_l_take b_l_take .nil pass0 (pa_cons (pv 0) (pa_cons (pe_callB call_len_seq (by rfl) M.len PySem.boot_len (pa_cons (pv 2) pa_nil)) pa_nil))) (fun _ _ => rfl)))
        (pss_cons (ps_set (i := 4) sc_l_crossed.nd rfl (.inl rfl) (pe_call G_l_take (hr.mono (by decide)) (by rfl) g_l_take k_l_take b_l_take .nil pass0 (pa_cons (pv 0) (pa_cons (pe_callB call_len_seq (by rfl) M.len PySem.boot_len (pa_cons (pe_ix ix_list (pv 1) (pv 3) (fun _ _ => rfl)) pa_nil)) pa_nil))))
        (pss_cons (ps_set (i := 5) sc_l_crossed.nd rfl (.inl rfl) (pe_call G_l_take (hr.mono (by decide)) (by rfl) g_l_take k_l_take b_l_take .nil pass0 (pa_cons (pv 0) (pa_cons (pe_callB call_len_seq (by rfl) M.len PySem.boot_len (pa_cons (pe_ix ix_list (pv 1) (pv 3) (fun _ _ => rfl)) pa_nil)) pa_nil))))
        (pss_cons (ps_set (i := 6) sc_l_crossed.nd rfl (.inl rfl) (pe_ix ix_list (pv 1) (pv 3) (fun _ _ => rfl)))
        (pss_one (ps_asg (pe_tup (pa_cons (pe_ix ix_list (pv 6) (pv 5) (fun _ _ => rfl)) (pa_cons (pe_ix ix_list (pv 6) (pv 4) (fun _ _ => rfl)) pa_nil))) (pg_tup rfl (pgs_cons (pg_sub (pv 6) (pv 4) set_list) (pgs_cons (pg_sub (pv 6) (pv 5) set_list) pgs_nil)))))))))
        pss_nil))), ?_⟩
    have lA := g.rw'.len
    have lAm : (A.map V.ref).length = rs.length := by rw [List.length_map, lA]
    refine ⟨.ref O, rfl, O, _, rfl, .inl (SqL.of g.hO), _, rfl, by omega, by omega, fun Z nZ => ?_⟩
    have Zd : Z ≠ d := g.dk.ned nZ
    refine lc_range (lo := 0) (n := (((A.map V.ref).length : Nat) : Int).toNat) (fun j H' => ∃ ps : List Int, H' Z = some (.lst (ps.map V.int)) ∧ (∀ p ∈ ps, (0 ≤ p ∧ p < (rs.length : Int)) ∧ ∃ row, rs[p.toNat]? = some row ∧ 2 < row.length) ∧ ps.length ≤ j ∧ Same H H') ⟨[], upd_same, fun p hp => (by cases hp), Nat.le_refl _, same_new nZ⟩ ?_ ?_
    · rintro j H1 hj ⟨ps, hZ, hps, lp, s1⟩
      have g1 := g.same s1
      obtain ⟨ra, row, ea, e1, er, hra⟩ := g1.at' (p := 0 + (j : Nat)) (by omega) (by omega)
      refine ⟨rfl, .ref O, rfl, .int (0 + (j : Nat)), rfl, O, _, 0 + (j : Nat), .ref ra, rfl, rfl, SqL.of g1.hO, e1, ra, _, rfl, .inl (SqL.of hra), _, _, rfl, rfl, _, rfl, ?_⟩
      by_cases h : (((row.map V.int).length : Nat) : Int) > 2
      · rw [decide_eq_true h]
        refine ⟨.int (0 + (j : Nat)), rfl, _, hZ, small1000 (by rw [List.length_map]; omega), ps ++ [(0 : Int) + (j : Nat)], by rw [upd_same, List.map_append]; rfl, fun p hp => ?_, by rw [List.length_append]; show _ + 1 ≤ _; omega, Same.mut s1 nZ⟩
        rcases List.mem_append.mp hp with z | z
        · exact hps p z
        · rw [List.mem_singleton.mp z]
          rw [List.length_map] at h
          exact ⟨by omega, row, er, by omega⟩
      · rw [decide_eq_false h]
        exact ⟨ps, hZ, hps, by omega, s1⟩
    · rintro H1 ⟨ps, hZ, hps, lp, s1⟩
      have g1 := g.same s1
      refine ⟨.ref Z, rfl, Nat.zero_le _, fun E nE => ⟨Z, E, _, rfl, rfl, SqL.of (same_new nE _ _ hZ), SqL.of upd_same, _, rfl, ?_⟩⟩
      have sE := same_new (o := .lst []) nE
      have gE := g1.same sE
      have hZE := sE _ _ hZ
      generalize upd H1 E (.lst []) = H2 at gE hZE
      by_cases en : ps = []
      · rw [en]
        exact q rs _ od rfl gE
      · rw [show (!(ps.map V.int).isEmpty) = true from by cases ps; exact absurd rfl en; rfl]
        have lpos := List.length_pos_iff.mpr en
        refine ⟨.ref Z, rfl, .ref d, rfl, .ref Z, rfl, Z, _, rfl, .inl (SqL.of hZE), d, _, rfl, gE.dk, by rw [List.length_map]; omega, by rw [List.length_map]; omega, fun v H3 v0 v1 D3 K3 => ?_⟩
        obtain ⟨u, e2, e3⟩ := getI v0 v1
        rw [List.getElem?_map] at e3
        obtain ⟨pl, ep, rfl⟩ := Option.map_eq_some_iff.mp e3
        obtain ⟨⟨p0, p1⟩, row, er, r2⟩ := hps pl (List.mem_of_getElem? ep)
        refine ⟨Z, _, v, .int pl, rfl, rfl, SqL.of (K3 _ _ Zd Zd hZE), e2, ?_⟩
        have g3 := gE.take K3 D3
        obtain ⟨ra, row0, ea, e1, er0, hra⟩ := g3.at' p0 p1
        rw [er] at er0
        cases er0
        have had := g3.aA ra (List.mem_of_getElem? ea)
        have lrow := od.row_len (List.mem_of_getElem? er)
        refine ⟨.ref d, rfl, .ref O, rfl, .int pl, rfl, O, _, pl, .ref ra, rfl, rfl, SqL.of g3.hO, e1, ra, _, rfl, .inl (SqL.of hra), d, _, rfl, g3.dk, by rw [List.length_map]; omega, by rw [List.length_map]; omega, fun x H4 x0 x1 D4 K4 => ?_⟩
        rw [List.length_map] at x1
        have g4 := g3.take K4 D4
        have hra4 := K4 _ _ had.2.2.1 had.2.2.1 hra
        refine ⟨.ref d, rfl, .ref O, rfl, .int pl, rfl, O, _, pl, .ref ra, rfl, rfl, SqL.of g4.hO, e1, ra, _, rfl, .inl (SqL.of hra4), d, _, rfl, g4.dk, by rw [List.length_map]; omega, by rw [List.length_map]; omega, fun y H5 y0 y1 D5 K5 => ?_⟩
        rw [List.length_map] at y1
        have g5 := g4.take K5 D5
        have hra5 := K5 _ _ had.2.2.1 had.2.2.1 hra4
        obtain ⟨a, ea1, ea2⟩ := getI (xs := row.map V.int) x0 (by rw [List.length_map]; exact x1)
        obtain ⟨b, eb1, eb2⟩ := getI (xs := row.map V.int) y0 (by rw [List.length_map]; exact y1)
        rw [List.getElem?_map] at ea2 eb2
        obtain ⟨a, ea3, rfl⟩ := Option.map_eq_some_iff.mp ea2
        obtain ⟨b, eb3, rfl⟩ := Option.map_eq_some_iff.mp eb2
        refine ⟨.ref O, rfl, .int pl, rfl, O, _, pl, .ref ra, rfl, rfl, SqL.of g5.hO, e1, ?_⟩
        refine ⟨.ref ra, rfl, .int y, rfl, ra, _, y, .int b, rfl, rfl, SqL.of hra5, eb1, .ref ra, rfl, .int x, rfl, ra, _, x, .int a, rfl, rfl, SqL.of hra5, ea1, by show 2 ≤ sizeLine; decide, fun c nc => ?_⟩
        have sc := same_new (o := .tup [.int b, .int a]) nc
        have g6 := g5.same sc
        have hra6 := sc _ _ hra5
        have hc6 : (upd H5 c (.tup [.int b, .int a])) c = some (.tup [.int b, .int a]) := upd_same
        generalize upd H5 c (.tup [.int b, .int a]) = H6 at g6 hra6 hc6
        have ls : ((row.map V.int).set x.toNat (.int b)).length = row.length := by rw [List.length_set, List.length_map]
        refine ⟨c, _, rfl, SqT.of hc6, rfl, _, _, rfl, .ref ra, rfl, .int x, rfl, ra, row.map V.int, x, x.toNat, rfl, rfl, hra6, ixN_of x0 (by rw [List.length_map]; exact x1), _, _, rfl, .ref ra, rfl, .int y, rfl, ra, (row.map V.int).set x.toNat (.int b), y, y.toNat, rfl, rfl, upd_same, ixN_of y0 (by rw [ls]; exact y1), rfl, ?_⟩
        obtain ⟨xl, xe⟩ := List.getElem?_eq_some_iff.mp ea3
        obtain ⟨yl, ye⟩ := List.getElem?_eq_some_iff.mp eb3
        have em : ((row.map V.int).set x.toNat (.int b)).set y.toNat (.int a) = ((row.set x.toNat b).set y.toNat a).map V.int := by rw [List.map_set, List.map_set]
        have pm : ((row.set x.toNat b).set y.toNat a).Perm row := by
          rw [← xe, ← ye]
          exact List.set_set_perm xl yl
        have g7 := g6.row ea hra6 ((row.set x.toNat b).set y.toNat a)
        rw [upd_upd, em]
        refine q (rs.set pl.toNat ((row.set x.toNat b).set y.toNat a)) _ (od.perm (by rw [List.length_set]) fun i row' e => ?_) (by rw [List.length_set]) g7
        by_cases ip : pl.toNat = i
        · subst ip
          rw [List.getElem?_set_self (by omega)] at e
          cases e
          exact ⟨row, er, pm⟩
        · rw [List.getElem?_set_ne ip] at e
          exact ⟨row', e, .refl _⟩
end
/-! ### flats: steps_behind -/
def othE (es : List (Int × Int)) (k p : Int) : Int := (es.getD k.toNat (0, 0)).1 + (es.getD k.toNat (0, 0)).2 - p
abbrev St2 := (Int × Int) × (Int × Int)
def stepR (es : List (Int × Int)) (p : Nat) (row : List Int) (m : Nat) : List St2 := (List.range m).map fun i => ((row.getD i 0, othE es (row.getD i 0) p), (row.getD ((i + 1) % row.length) 0, (p : Int)))
def stepsB (es : List (Int × Int)) (rs : List (List Int)) (m : Nat) : List St2 := (List.range m).flatMap fun p => stepR es p (rs.getD p []) (rs.getD p []).length
theorem stepR_succ (es : List (Int × Int)) (p : Nat) (row : List Int) (m : Nat) : stepR es p row (m + 1) = stepR es p row m ++ [((row.getD m 0, othE es (row.getD m 0) p), (row.getD ((m + 1) % row.length) 0, (p : Int)))] := by
  unfold stepR
  rw [List.range_succ, List.map_append]
  rfl
theorem stepsB_succ (es : List (Int × Int)) (rs : List (List Int)) (m : Nat) : stepsB es rs (m + 1) = stepsB es rs m ++ stepR es m (rs.getD m []) (rs.getD m []).length := by
  unfold stepsB
  rw [List.range_succ, List.flatMap_append]
  simp
def BhV (H : Hp) (kv : List Key × V) (b : St2) : Prop := kv.1 = [Sum.inl b.1.1, Sum.inl b.1.2] ∧ PrV H kv.2 b.2
theorem bh_tk {H H' : Hp} (k : Tk H H') {vs : List (List Key × V)} {bs : List St2} (h : Paired (BhV H) vs bs) : Paired (BhV H') vs bs := Paired.mono (fun _ _ x => ⟨x.1, x.2.tk k⟩) h
theorem bh_none {H : Hp} {x y : Int} : ∀ {kvs : List (List Key × V)} {bs : List St2}, Paired (BhV H) kvs bs → (∀ b ∈ bs, b.1 ≠ (x, y)) → valV kvs [Sum.inl x, Sum.inl y] = none
  | _, _, .nil, _ => rfl
  | kv :: kvs, b :: bs, .cons h t, no => by
    rw [valV_neg]
    · exact bh_none t fun c hc => no c (List.mem_cons_of_mem _ hc)
    · intro e
      rw [h.1] at e
      have := no b List.mem_cons_self
      simp only [List.cons.injEq, Sum.inl.injEq, and_true] at e
      exact this (Prod.ext e.1 e.2)
theorem bh_put {H : Hp} {x y : Int} {kvs : List (List Key × V)} {bs : List St2} {v : V} (h : Paired (BhV H) kvs bs) (no : ∀ b ∈ bs, b.1 ≠ (x, y)) : putK kvs [Sum.inl x, Sum.inl y] v = kvs ++ [([Sum.inl x, Sum.inl y], v)] := by
  unfold putK
  rw [valV_any, bh_none h no, if_neg (by simp)]
theorem othE_inj {es : List (Int × Int)} {k p q : Int} (h : othE es k p = othE es k q) : p = q := by
  unfold othE at h
  omega
theorem stepR_mem {es : List (Int × Int)} {p : Nat} {row : List Int} {m : Nat} {b : St2} (h : b ∈ stepR es p row m) : ∃ i, i < m ∧ b.1 = (row.getD i 0, othE es (row.getD i 0) p) := by
  unfold stepR at h
  obtain ⟨i, hi, rfl⟩ := List.mem_map.mp h
  exact ⟨i, List.mem_range.mp hi, rfl⟩
theorem step_new {es : List (Int × Int)} {rs : List (List Int)} {i j : Nat} {row : List Int} (er : rs[i]? = some row) (nd : row.Nodup) (hj : j < row.length) : ∀ b ∈ stepsB es rs i ++ stepR es i row j, b.1 ≠ (row.getD j 0, othE es (row.getD j 0) i) := by
  intro b hb e
  rcases List.mem_append.mp hb with h | h
  · unfold stepsB at h
    obtain ⟨p, hp, h⟩ := List.mem_flatMap.mp h
    have hp := List.mem_range.mp hp
    obtain ⟨i', _, e'⟩ := stepR_mem h
    rw [e'] at e
    have e1 := (Prod.mk.injEq .. ▸ e).1
    have e2 := (Prod.mk.injEq .. ▸ e).2
    rw [e1] at e2
    have := othE_inj e2
    omega
  · obtain ⟨i', hi', e'⟩ := stepR_mem h
    rw [e'] at e
    have e1 := (Prod.mk.injEq .. ▸ e).1
    rw [List.getD_eq_getElem?_getD, List.getD_eq_getElem?_getD, List.getElem?_eq_getElem hj, List.getElem?_eq_getElem (by omega)] at e1
    exact List.pairwise_iff_getElem.mp nd i' j (by omega) hj hi' e1
theorem rot1 {row : List Int} {i : Nat} (hi : i < row.length) : (row.drop 1 ++ row.take 1)[i]? = some (row.getD ((i + 1) % row.length) 0) := by
  by_cases h : i + 1 < row.length
  · rw [List.getElem?_append_left (by rw [List.length_drop]; omega), List.getElem?_drop, Nat.mod_eq_of_lt h, Nat.add_comm, List.getElem?_eq_getElem h, List.getD_eq_getElem?_getD, List.getElem?_eq_getElem h]
    rfl
  · have e : i + 1 = row.length := by omega
    rw [List.getElem?_append_right (by rw [List.length_drop]; omega), List.length_drop, show i - (row.length - 1) = 0 by omega, e, Nat.mod_self, List.getElem?_take_of_lt (by omega), List.getElem?_eq_getElem (show 0 < row.length by omega), List.getD_eq_getElem?_getD, List.getElem?_eq_getElem (show 0 < row.length by omega)]
    rfl
theorem cut_rot (xs : List V) : cutV xs (some 1) none ++ cutV xs none (some 1) = xs.drop 1 ++ xs.take 1 := by
  cases xs with
  | nil => rfl
  | cons x xs =>
    have h : (1 : Nat) ≤ (x :: xs).length := by simp
    have a := cut_drop (xs := x :: xs) h
    have b := cut_take (xs := x :: xs) h
    have e : (((1 : Nat) : Int)) = 1 := rfl
    rw [e] at a b
    rw [a, b]
theorem stepR_len (es : List (Int × Int)) (p : Nat) (row : List Int) (m : Nat) : (stepR es p row m).length = m := by
  unfold stepR
  rw [List.length_map, List.length_range]
def spSteps : Sp := fun vs H Q _ => ∃ (wv : V) (n : Int) (ts : List Tie) (o : Addr) (us : List V) (rs : List (List Int)) (es : List (Int × Int)), vs = [wv, .ref o] ∧ WebAt H wv n ts ∧ H o = some (.tup us) ∧ Paired (IntsV H) us rs ∧ Ord rs es ∧ TwE ts es ∧ rs.length ≤ 100 ∧ es.length ≤ 200 ∧
  ∀ D kvs H', Same H H' → H' D = some (.dT kvs) → Paired (BhV H') kvs (stepsB es rs rs.length) → Q (.ref D) H'
theorem walk_zipT {K : PySem.W.Frag} {a b : Addr} {xs ys : List V} {n : Nat} (hn : n = min xs.length ys.length) : Walk (RZ.ItzT K a b) n (fun H => SqT K H a xs ∧ SqT K H b ys) (YPair (fun i => xs[i]?) (fun i => ys[i]?)) := by
  subst hn
  refine ⟨fun i _ hi q => ?_, fun _ q => ⟨xs, ys, q.1, q.2, by omega⟩, fun i H v H' _ q y => ?_⟩
  · have h1 : i < xs.length := by omega
    have h2 : i < ys.length := by omega
    exact ⟨xs, ys, xs[i], ys[i], q.1, q.2, by simp [h1], by simp [h2]⟩
  · obtain ⟨T, x, z, h1, h2, h3, h4, h5⟩ := y
    exact ⟨T, x, z, h1, h2, h3, h4 xs q.1, h5 ys q.2⟩
section
variable {P : Program} {w : World} {K : PySem.W.Frag} {mg : Str → Option Value} {base : Heap}
set_option maxHeartbeats 2000000 in
theorem ok_steps_behind {f : Addr} {fd : FuncData} (F : Fun K "steps_behind" "steps_behind" s_steps_behind f fd) (m_enumerate : mg "enumerate" = none) (m_zip : mg "zip" = none) : FnOk P w K mg base CX0 1 f fd ["web", "orders"] spSteps := by
  refine F.ok sc_steps_behind (fun vs H Q E h => ?_) (fun cdv A outer s H vs Q E hr h => ?_)
  · obtain ⟨wv, n, ts, o, us, rs, es, rfl, _⟩ := h
    rfl
  · obtain ⟨wv, n, ts, o, us, rs, es, rfl, hW, ho, hp, od, tw, lr, le, q⟩ := h
    have hu := room1 hr
    refine ⟨_, (pss_cons (ps_set (i := 2) sc_steps_behind.nd rfl (.inl rfl) pe_dnewT)
      (pss_cons (ps_for PassesOwn.never rfl (pi_enumT (by rfl) m_enumerate (pa_cons (pv 1) pa_nil)) (pg_tup rfl (pgs_cons (pg_name (i := 3) sc_steps_behind.nd rfl (.inl rfl)) (pgs_cons (pg_name (i := 4) sc_steps_behind.nd rfl (.inl rfl)) pgs_nil)))
        (pss_one (ps_for PassesOwn.never rfl (RZ.pi_zipA (by rfl) m_zip (pa_cons (pv 4) (pa_cons (pe_op op_catU (pe_slice sl_tupU (pv 4) (po_some pe_int) po_none) (pe_slice sl_tupU (pv 4) po_none (po_some pe_int))) pa_nil))) (pg_tup rfl (pgs_cons (pg_name (i := 5) sc_steps_behind.nd rfl (.inl rfl)) (pgs_cons (pg_name (i := 6) sc_steps_behind.nd rfl (.inl rfl)) pgs_nil)))
          (pss_cons (ps_asg (pe_ix ix_tup (pe_ix ix_tup (pv 0) pe_int (fun _ _ => rfl)) (pv 5) (fun _ _ => rfl)) (pg_tup rfl (pgs_cons (pg_name (i := 7) sc_steps_behind.nd rfl (.inl rfl)) (pgs_cons (pg_name (i := 8) sc_steps_behind.nd rfl (.inl rfl)) (pgs_cons (pg_name (i := 9) sc_steps_behind.nd rfl (.inl rfl)) pgs_nil)))))
          (pss_one (ps_dput hu (pv 2) (pe_tup (pa_cons (pv 5) (pa_cons (pe_ifExp (pt_cmpR op_eq (pv 3) (pv 7) (nomark _)) (pv 8) (pv 7)) pa_nil))) (pe_tup (pa_cons (pv 6) (pa_cons (pv 3) pa_nil))) rfl))))))
      (pss_one (ps_ret (pv 2))))), ?_⟩
    obtain ⟨wa, wb, ws, rfl, hwa, hwb, hpw⟩ := id hW
    have lu : us.length = rs.length := Paired.length hp
    refine fun D nD => ?_
    have s1 := same_new (o := .dT []) nD
    have hD1 : (upd H D (.dT [])) D = some (.dT []) := upd_same
    generalize upd H D (.dT []) = H1 at s1 hD1
    refine ⟨.ref o, rfl, o, us, rfl, SqT.of (s1 _ _ ho), ?_⟩
    refine for_it (walk_enumT (xs := us)) (fun i σ' H' => ∃ (y3 y4 y5 y6 y7 y8 y9 : Option V) (kvs : List (List Key × V)), σ' = [some (.ref wa), some (.ref o), some (.ref D), y3, y4, y5, y6, y7, y8, y9] ∧ H' D = some (.dT kvs) ∧ Paired (BhV H') kvs (stepsB es rs i) ∧ kvs.length ≤ 200 * i ∧ Same H H') ⟨none, none, none, none, none, none, none, [], rfl, hD1, .nil, Nat.le_refl _, s1⟩ (fun i σ' H' _ h => by
      obtain ⟨_, _, _, _, _, _, _, _, _, _, _, _, s⟩ := h
      exact SqT.of (s _ _ ho)) ?_ ?_
    · rintro i x σ' H2 H3 hi ⟨y3, y4, y5, y6, y7, y8, y9, kvs, rfl, hD2, hb, lk0, s2⟩ ⟨T, x1, y1, rfl, nT, rfl, gx, gy⟩
      obtain rfl : V.int (i : Nat) = x1 := Option.some.inj gx
      have gy : us[i]? = some y1 := gy
      obtain ⟨row, er, a, rfl, ha⟩ := Paired.at hp gy
      have sT := same_new (o := .tup [.int (i : Nat), .ref a]) nT
      have hT3 := upd_same (H := H2) (a := T) (o := .tup [.int (i : Nat), .ref a])
      have hD3 := sT _ _ hD2
      have hb3 := bh_tk (Same.tk sT) hb
      have s3 := s2.trans sT
      generalize upd H2 T (.tup [.int (i : Nat), .ref a]) = H3 at hT3 hD3 hb3 s3
      have eg : rs.getD i [] = row := by rw [List.getD_eq_getElem?_getD, er]; rfl
      have hrm := List.mem_of_getElem? er
      have ndr := od.nd row hrm
      have lrow := od.row_len hrm
      refine ⟨T, _, rfl, SqT.of hT3, rfl, _, _, rfl, _, _, rfl, rfl, ?_⟩
      refine ⟨.ref a, rfl, .ref a, rfl, 1, rfl, a, _, rfl, s3 _ _ ha, fun r1 H4 s4 h4 => ⟨.ref a, rfl, 1, rfl, a, _, rfl, s4 _ _ (s3 _ _ ha), fun r2 H5 s5 h5 => ?_⟩⟩
      have hlen : (cutV (row.map V.int) (some 1) none).length + (cutV (row.map V.int) none (some 1)).length ≤ 100000 := by
        have h1 := cutV_length (row.map V.int) (some 1) none
        have h2 := cutV_length (row.map V.int) none (some 1)
        rw [List.length_map] at h1 h2
        omega
      refine ⟨r1, r2, _, _, rfl, rfl, s5 _ _ h4, h5, hlen, fun r3 H6 s6 h6 => ?_⟩
      rw [cut_rot] at h6
      have s36 := ((s4.trans s5).trans s6)
      have sA := s3.trans s36
      have hD6 := s36 _ _ hD3
      have hb6 := bh_tk (Same.tk s36) hb3
      clear hD3 hb3 hb hD2 s4 h4 s5 h5 s6 hT3
      refine ⟨a, r3, _, _, rfl, .inr ⟨SqT.of (sA _ _ ha), SqT.of h6, ?_⟩⟩
      have lz : ((row.map V.int).drop 1 ++ (row.map V.int).take 1).length = row.length := by
        rw [List.length_append, List.length_drop, List.length_take, List.length_map]
        omega
      refine for_it (walk_zipT (xs := row.map V.int) (ys := (row.map V.int).drop 1 ++ (row.map V.int).take 1) (n := row.length) (by rw [lz, List.length_map]; omega)) (fun j σ' H' => ∃ (y5 y6 y7 y8 y9 : Option V) (kvs : List (List Key × V)), σ' = [some (.ref wa), some (.ref o), some (.ref D), some (.int (i : Nat)), some (.ref a), y5, y6, y7, y8, y9] ∧ H' D = some (.dT kvs) ∧ Paired (BhV H') kvs (stepsB es rs i ++ stepR es i row j) ∧ H' r3 = some (.tup ((row.map V.int).drop 1 ++ (row.map V.int).take 1)) ∧ kvs.length ≤ 200 * i + j ∧ Same H H') ⟨_, _, _, _, _, kvs, rfl, hD6, by rw [show stepR es i row 0 = [] from rfl, List.append_nil]; exact hb6, h6, lk0, sA⟩ (fun j σ' H' _ h => by
        obtain ⟨_, _, _, _, _, _, _, _, _, h3, _, s⟩ := h
        exact ⟨SqT.of (s _ _ ha), SqT.of h3⟩) ?_ ?_
      · clear hD6 hb6 sA s36 h6
        rintro j x σ' H7 H8 hj ⟨y5, y6, y7, y8, y9, kvs, rfl, hD7, hb7, h7, lk, s7⟩ ⟨T2, x2, y2, rfl, nT2, rfl, gx2, gy2⟩
        have gx2 : (row.map V.int)[j]? = some x2 := gx2
        have gy2 : ((row.map V.int).drop 1 ++ (row.map V.int).take 1)[j]? = some y2 := gy2
        have ej := List.getElem?_eq_getElem hj
        have egj : row.getD j 0 = row[j] := by rw [List.getD_eq_getElem?_getD, ej]; rfl
        rw [List.getElem?_map, ej] at gx2
        cases gx2
        have er1 := rot1 hj
        rw [← List.map_drop, ← List.map_take, ← List.map_append, List.getElem?_map, er1] at gy2
        cases gy2
        have sT2 := same_new (o := .tup [.int row[j], .int (row.getD ((j + 1) % row.length) 0)]) nT2
        have hT8 := upd_same (H := H7) (a := T2) (o := .tup [.int row[j], .int (row.getD ((j + 1) % row.length) 0)])
        have hD8 := sT2 _ _ hD7
        have hb8 := bh_tk (Same.tk sT2) hb7
        have h8 := sT2 _ _ h7
        have s8 := s7.trans sT2
        generalize upd H7 T2 (.tup [.int row[j], .int (row.getD ((j + 1) % row.length) 0)]) = H8 at hT8 hD8 hb8 h8 s8
        obtain ⟨k, e, ek, ee, pe⟩ := (od.mem i row er row[j]).mp (List.getElem_mem hj)
        have kl := (List.getElem?_eq_some_iff.mp ee).1
        obtain ⟨t, et⟩ : ∃ t, ts[k]? = some t := ⟨_, List.getElem?_eq_getElem (by rw [tw.1]; exact kl)⟩
        have jt := tw.2 k t e et ee
        have ends := od.ends e (List.mem_of_getElem? ee)
        obtain ⟨u, eu, tc, rfl, htc⟩ := Paired.at' hpw et
        refine ⟨T2, _, rfl, SqT.of hT8, rfl, _, _, rfl, _, _, rfl, rfl, ?_⟩
        refine ⟨.ref wa, rfl, wa, _, 1, .ref wb, rfl, rfl, SqT.of (s8 _ _ hwa), rfl, .int row[j], rfl, wb, _, row[j], .ref tc, rfl, rfl, SqT.of (s8 _ _ hwb), (by rw [ek]; exact atI_nat eu), tc, _, rfl, SqT.of (s8 _ _ htc), rfl, _, _, rfl, _, _, rfl, _, _, rfl, rfl, ?_⟩
        refine ⟨.int (row.getD ((j + 1) % row.length) 0), rfl, .int (i : Nat), rfl, by show 2 ≤ sizeLine; decide, fun v nv => ?_⟩
        have sv := same_new (o := .tup [.int (row.getD ((j + 1) % row.length) 0), .int (i : Nat)]) nv
        have hv9 := upd_same (H := H8) (a := v) (o := .tup [.int (row.getD ((j + 1) % row.length) 0), .int (i : Nat)])
        refine ⟨.ref D, rfl, .int row[j], rfl, .int (i : Nat), rfl, .int t.one, rfl, rfl, _, rfl, ?_⟩
        rw [dec_intF]
        have oe : othE es row[j] i = e.1 + e.2 - (i : Int) := by
          unfold othE
          rw [ek, List.getD_eq_getElem?_getD, Int.toNat_natCast, ee]
          rfl
        by_cases ci : ((i : Nat) : Int) = t.one
        · rw [decide_eq_true ci]
          have eq0 : t.other = othE es row[j] i := by rw [oe]; omega
          refine ⟨.int t.other, rfl, by show 2 ≤ sizeLine; decide, fun kk nk => ?_⟩
          have sk := same_new (o := .tup [.int row[j], .int t.other]) nk
          have hk9 := upd_same (H := upd H8 v (.tup [.int (row.getD ((j + 1) % row.length) 0), .int (i : Nat)])) (a := kk) (o := .tup [.int row[j], .int t.other])
          have s9 := sv.trans sk
          have hv10 := sk _ _ hv9
          have hD9 := s9 _ _ hD8
          have hb9 := bh_tk (Same.tk s9) hb8
          have h9 := s9 _ _ h8
          have sB := s8.trans s9
          generalize upd (upd H8 v (.tup [.int (row.getD ((j + 1) % row.length) 0), .int (i : Nat)])) kk (.tup [.int row[j], .int t.other]) = H9 at hk9 hv10 hD9 hb9 h9 sB
          have hlt : kvs.length < sizeLine := Nat.lt_of_succ_le (Evl.sz_of (by omega))
          refine ⟨D, _, rfl, DPut.t (k := [Sum.inl row[j], Sum.inl t.other]) hD9 hk9 hlt, ?_⟩
          have nw := step_new (es := es) er ndr hj
          rw [egj, ← eq0] at nw
          rw [bh_put hb9 nw]
          have tkD : Tk H9 (upd H9 D (.dT (kvs ++ [([Sum.inl row[j], Sum.inl t.other], .ref v)]))) := fun b zs eb => by
            rw [upd_ne (fun z => by rw [z, hD9] at eb; cases eb)]
            exact eb
          refine ⟨_, _, _, _, _, kvs ++ [([Sum.inl row[j], Sum.inl t.other], .ref v)], rfl, upd_same, ?_, tkD _ _ h9, by rw [List.length_append]; show _ + 1 ≤ _; omega, Same.mut sB nD⟩
          rw [stepR_succ, ← List.append_assoc, egj, ← eq0]
          exact Paired.snoc (bh_tk tkD hb9) ⟨rfl, v, rfl, tkD _ _ hv10⟩
        · rw [decide_eq_false ci]
          have eq0 : t.one = othE es row[j] i := by rw [oe]; omega
          refine ⟨.int t.one, rfl, by show 2 ≤ sizeLine; decide, fun kk nk => ?_⟩
          have sk := same_new (o := .tup [.int row[j], .int t.one]) nk
          have hk9 := upd_same (H := upd H8 v (.tup [.int (row.getD ((j + 1) % row.length) 0), .int (i : Nat)])) (a := kk) (o := .tup [.int row[j], .int t.one])
          have s9 := sv.trans sk
          have hv10 := sk _ _ hv9
          have hD9 := s9 _ _ hD8
          have hb9 := bh_tk (Same.tk s9) hb8
          have h9 := s9 _ _ h8
          have sB := s8.trans s9
          generalize upd (upd H8 v (.tup [.int (row.getD ((j + 1) % row.length) 0), .int (i : Nat)])) kk (.tup [.int row[j], .int t.one]) = H9 at hk9 hv10 hD9 hb9 h9 sB
          have hlt : kvs.length < sizeLine := Nat.lt_of_succ_le (Evl.sz_of (by omega))
          refine ⟨D, _, rfl, DPut.t (k := [Sum.inl row[j], Sum.inl t.one]) hD9 hk9 hlt, ?_⟩
          have nw := step_new (es := es) er ndr hj
          rw [egj, ← eq0] at nw
          rw [bh_put hb9 nw]
          have tkD : Tk H9 (upd H9 D (.dT (kvs ++ [([Sum.inl row[j], Sum.inl t.one], .ref v)]))) := fun b zs eb => by
            rw [upd_ne (fun z => by rw [z, hD9] at eb; cases eb)]
            exact eb
          refine ⟨_, _, _, _, _, kvs ++ [([Sum.inl row[j], Sum.inl t.one], .ref v)], rfl, upd_same, ?_, tkD _ _ h9, by rw [List.length_append]; show _ + 1 ≤ _; omega, Same.mut sB nD⟩
          rw [stepR_succ, ← List.append_assoc, egj, ← eq0]
          exact Paired.snoc (bh_tk tkD hb9) ⟨rfl, v, rfl, tkD _ _ hv10⟩
      · rintro σ' H7 ⟨y5, y6, y7, y8, y9, kvs, rfl, hD7, hb7, h7, lk, s7⟩
        refine ⟨_, _, _, _, _, _, _, kvs, rfl, hD7, ?_, by omega, s7⟩
        rw [stepsB_succ, eg]
        exact hb7
    · rintro σ' H2 ⟨y3, y4, y5, y6, y7, y8, y9, kvs, rfl, hD2, hb, lk0, s2⟩
      rw [lu] at hb
      exact ⟨.ref D, rfl, q D kvs _ s2 hD2 hb⟩
end
/-! ### flats: face_from, _law_behind -/
theorem eqv_twoF (x y u v : Int) : PyData.eqv (intsD [x, y]) (intsD [u, v]) = (decide (u = x) && decide (v = y)) := by
  show PyData.eqv (.tuple [.int x, .int y]) (.tuple [.int u, .int v]) = _
  rw [PyData.eqv, PyData.eqvAll, PyData.eqv, PyData.eqvAll, PyData.eqv, PyData.eqvAll, Bool.and_true]
  rw [Bool.eq_iff_iff, Bool.and_eq_true, Bool.and_eq_true, beq_iff_eq, beq_iff_eq, decide_eq_true_iff, decide_eq_true_iff]
  exact ⟨fun h => ⟨h.1.symm, h.2.symm⟩, fun h => ⟨h.1.symm, h.2.symm⟩⟩
theorem bh_get {H : Hp} {x y u v : Int} : ∀ {kvs : List (List Key × V)} {bs : List St2}, Paired (BhV H) kvs bs → (bs.map (·.1)).Nodup → ((x, y), (u, v)) ∈ bs → ∃ a, valV kvs [Sum.inl x, Sum.inl y] = some (.ref a) ∧ H a = some (.tup [.int u, .int v])
  | _, _, .nil, _, h => by cases h
  | kv :: kvs, b :: bs, .cons h t, nd, hm => by
    rw [List.map_cons] at nd
    have nd' := List.nodup_cons.mp nd
    by_cases e : b.1 = (x, y)
    · have eb : b = ((x, y), (u, v)) := by
        rcases List.mem_cons.mp hm with z | z
        · exact z.symm
        · exact (nd'.1 (List.mem_map.mpr ⟨_, z, e.symm⟩)).elim
      subst eb
      obtain ⟨h1, a, h2, h3⟩ := h
      refine ⟨a, ?_, h3⟩
      rw [valV_pos (p := kv) h1, h2]
    · have hm' : ((x, y), (u, v)) ∈ bs := by
        rcases List.mem_cons.mp hm with z | z
        · exact (e (by rw [← z])).elim
        · exact z
      obtain ⟨a, h1, h2⟩ := bh_get t nd'.2 hm'
      refine ⟨a, ?_, h2⟩
      rw [valV_neg]
      · exact h1
      · intro z
        rw [h.1] at z
        simp only [List.cons.injEq, Sum.inl.injEq, and_true] at z
        exact e (Prod.ext z.1 z.2)
theorem ixN_last {n : Nat} (h : 0 < n) : ixN n (-1) = some (n - 1) := by
  unfold ixN
  rw [if_neg (by decide), if_pos (by omega)]
  congr 1
  omega
theorem atI_last {α : Type} {xs : List α} {v : α} (h : xs[xs.length - 1]? = some v) : atI xs (-1) = some v := by
  have := (List.getElem?_eq_some_iff.mp h).1
  unfold atI
  rw [ixN_last (by omega)]
  exact h
/-- a way round, back to where it began, which is met but once -/
structure Cyc (bs : List St2) (s : Int × Int) (ps : List (Int × Int)) : Prop where
  hd : ps[0]? = some s
  st : ∀ (i : Nat) (x y : Int × Int), ps[i]? = some x → ps[i + 1]? = some y → (x, y) ∈ bs
  cl : ∀ x : Int × Int, ps[ps.length - 1]? = some x → (x, s) ∈ bs
  no : ∀ (i : Nat) (x : Int × Int), 0 < i → ps[i]? = some x → x ≠ s
def spFace : Sp := fun vs H Q _ => ∃ (f D : Addr) (kvs : List (List Key × V)) (bs : List St2) (s : Int × Int) (ps : List (Int × Int)), vs = [.ref f, .ref D] ∧ H f = some (.tup [.int s.1, .int s.2]) ∧ H D = some (.dT kvs) ∧ Paired (BhV H) kvs bs ∧ (bs.map (·.1)).Nodup ∧ Cyc bs s ps ∧ ps.length ≤ 1000 ∧
  ∀ r vs' H', Same H H' → H' r = some (.tup vs') → Paired (PrV H') vs' ps → Q (.ref r) H'
def spBehindL : Sp := fun vs H Q _ => ∃ (wv : V) (n : Int) (ts : List Tie) (o st : Addr) (us : List V) (rs : List (List Int)) (es : List (Int × Int)) (k : Nat) (p : Nat) (row : List Int) (i : Nat), vs = [wv, .ref o, .ref st] ∧ WebAt H wv n ts ∧ H o = some (.tup us) ∧ Paired (IntsV H) us rs ∧ Ord rs es ∧ TwE ts es ∧ es.length ≤ 200 ∧ k < es.length ∧ rs[p]? = some row ∧ row[i]? = some (k : Int) ∧ H st = some (.tup [.int (k : Nat), .int (othE es k p)]) ∧
  ∀ r H', Same H H' → H' r = some (.tup [.int (row.getD ((i + 1) % row.length) 0), .int (p : Nat)]) → Q (.ref r) H'
section
variable {P : Program} {w : World} {K : PySem.W.Frag} {mg : Str → Option Value} {base : Heap}
set_option maxHeartbeats 2000000 in
theorem ok_face_from {f : Addr} {fd : FuncData} (F : Fun K "face_from" "face_from" s_face_from f fd) (M : Free mg) : FnOk P w K mg base CX0 1 f fd ["first", "behind"] spFace := by
  refine F.ok sc_face_from (fun vs H Q E h => ?_) (fun cdv A outer s H vs Q E hr h => ?_)
  · obtain ⟨f0, D, kvs, bs, s0, ps, rfl, _⟩ := h
    rfl
  · obtain ⟨f0, D, kvs, bs, s0, ps, rfl, hf, hD, hb, nd, cy, lp, q⟩ := h
    have hu := room1 hr
    refine ⟨_, (pss_cons (ps_set (i := 2) sc_face_from.nd rfl (.inl rfl) (pe_lst (pa_cons (pv 0) pa_nil)))
      (pss_cons (ps_while PassesOwn.never (pt_cmpR (op_neD hr.units) (pe_dget hu (pv 1) (pe_ix ix_list (pv 2) (pe_un un_neg pe_int) (fun _ _ => rfl)) (fun _ _ => rfl)) (pv 0) (nomark _))
        (pss_one (ps_expr (pe_bm PySem.F.plainAttrs_list PySem.F.slot_list_append PySem.F.type_list_append mt_append (pv 2) (pa_cons (pe_dget hu (pv 1) (pe_ix ix_list (pv 2) (pe_un un_neg pe_int) (fun _ _ => rfl)) (fun _ _ => rfl)) pa_nil)))))
      (pss_one (ps_ret (pe_callTy call_tuple_of (by rfl) M.tuple (by decide +kernel) (pa_cons (pv 2) pa_nil)))))), ?_⟩
    refine ⟨.ref f0, rfl, by show 1 ≤ sizeLine; decide, fun L nL => ?_⟩
    have sL := same_new (o := .lst [.ref f0]) nL
    have hL1 : (upd H L (.lst [.ref f0])) L = some (.lst [.ref f0]) := upd_same
    generalize upd H L (.lst [.ref f0]) = H1 at sL hL1
    have ppos : 0 < ps.length := (List.getElem?_eq_some_iff.mp cy.hd).1
    have et1 : ps.take 1 = [s0] := by
      have := cy.hd
      cases hps : ps with
      | nil => rw [hps] at this; cases this
      | cons a as =>
        rw [hps] at this
        cases this
        rfl
    refine ⟨fun m σ' H' => ∃ (k : Nat) (vs : List V), σ' = [some (.ref f0), some (.ref D), some (.ref L)] ∧ H' L = some (.lst vs) ∧ Paired (PrV H') vs (ps.take k) ∧ 1 ≤ k ∧ k ≤ ps.length ∧ m = ps.length - k ∧ Same H H', ⟨ps.length - 1, 1, [.ref f0], rfl, hL1, by rw [et1]; exact .cons ⟨f0, rfl, sL _ _ hf⟩ .nil, Nat.le_refl _, ppos, rfl, sL⟩, ?_⟩
    rintro m σ' H2 ⟨k, vs, rfl, hL, hv, k1, kl, rfl, s2⟩
    have lv := Paired.length hv
    rw [List.length_take] at lv
    obtain ⟨x, ex⟩ : ∃ x, ps[k - 1]? = some x := ⟨_, List.getElem?_eq_getElem (by omega)⟩
    have ext : (ps.take k)[k - 1]? = some x := by rw [List.getElem?_take_of_lt (by omega)]; exact ex
    obtain ⟨u, eu, c, rfl, hc⟩ := Paired.at' hv ext
    have lvk : vs.length = k := by omega
    have atl : atI vs (-1) = some (.ref c) := atI_last (by rw [lvk]; exact eu)
    have hD2 := s2 _ _ hD
    have hb2 := bh_tk (Same.tk s2) hb
    have get : ∀ y : Int × Int, (x, y) ∈ bs → ∃ b, DGet H2 D (.ref c) (some (.ref b)) ∧ H2 b = some (.tup [.int y.1, .int y.2]) := fun y hy => by
      obtain ⟨b, h1, h2⟩ := bh_get (x := x.1) (y := x.2) (u := y.1) (v := y.2) hb2 nd hy
      have g := DGet.t (k := [Sum.inl x.1, Sum.inl x.2]) hD2 hc
      rw [h1] at g
      exact ⟨b, g, h2⟩
    by_cases hk : k < ps.length
    · obtain ⟨y, ey⟩ : ∃ y, ps[k]? = some y := ⟨_, List.getElem?_eq_getElem hk⟩
      obtain ⟨b, g, hb'⟩ := get y (cy.st (k - 1) x y ex (by rw [show k - 1 + 1 = k by omega]; exact ey))
      have ny := cy.no k y (by omega) ey
      refine ⟨.ref D, rfl, .ref L, rfl, 1, rfl, L, vs, -1, .ref c, rfl, rfl, SqL.of hL, atl, D, .ref b, rfl, g, .ref f0, rfl, _, _, IntsV.dp (xs := [y.1, y.2]) ⟨b, rfl, hb'⟩, IntsV.dp (xs := [s0.1, s0.2]) ⟨f0, rfl, s2 _ _ hf⟩, shaped_intsD _, shaped_intsD _, true, ?_, ?_⟩
      · rw [eqv_twoF]
        congr 1
        rw [Bool.not_eq_true', Bool.and_eq_false_iff, decide_eq_false_iff_not, decide_eq_false_iff_not]
        by_cases z : s0.1 = y.1
        · exact .inr fun z2 => ny (Prod.ext z.symm z2.symm)
        · exact .inl z
      · refine ⟨_, fun _ _ h => h, ?_⟩
        have tk := tk_lst (ys := vs ++ [.ref b]) hL
        refine ⟨.ref L, rfl, .inl ⟨rfl, _, SqL.of hL⟩, .ref D, rfl, .ref L, rfl, 1, rfl, L, vs, -1, .ref c, rfl, rfl, SqL.of hL, atl, D, .ref b, rfl, g, L, vs, _, rfl, rfl, hL, Nat.lt_of_succ_le (Evl.sz_of (by omega)), ?_⟩
        refine ⟨ps.length - (k + 1), by omega, k + 1, vs ++ [.ref b], rfl, upd_same, ?_, by omega, hk, rfl, Same.mut s2 nL⟩
        rw [List.take_add_one, ey]
        exact Paired.snoc (pr_tk tk hv) ⟨b, rfl, tk _ _ hb'⟩
    · have ek : k = ps.length := by omega
      obtain ⟨b, g, hb'⟩ := get s0 (cy.cl x (by rw [← ek]; exact ex))
      refine ⟨.ref D, rfl, .ref L, rfl, 1, rfl, L, vs, -1, .ref c, rfl, rfl, SqL.of hL, atl, D, .ref b, rfl, g, .ref f0, rfl, _, _, IntsV.dp (xs := [s0.1, s0.2]) ⟨b, rfl, hb'⟩, IntsV.dp (xs := [s0.1, s0.2]) ⟨f0, rfl, s2 _ _ hf⟩, shaped_intsD _, shaped_intsD _, false, ?_, ?_⟩
      · rw [eqv_twoF, decide_eq_true rfl, decide_eq_true rfl]
        rfl
      · rw [ek, List.take_length] at hv
        refine ⟨.ref L, rfl, L, vs, rfl, .inl ⟨SqL.of hL, fun r nr => ?_⟩⟩
        have sr := same_new (o := .tup vs) nr
        exact q r vs _ (s2.trans sr) upd_same (pr_tk (Same.tk sr) hv)
set_option maxHeartbeats 2000000 in
theorem ok_l_behind {f : Addr} {fd : FuncData} (F : Fun K "_law_behind" "_law_behind" s_l_behind f fd) (M : Free mg) : FnOk P w K mg base CX0 1 f fd ["_law_web_here", "_law_orders", "_law_step"] spBehindL := by
  refine F.ok sc_l_behind (fun vs H Q E h => ?_) (fun cdv A outer s H vs Q E hr h => ?_)
  · obtain ⟨wv, n, ts, o, sa, us, rs, es, k, p, row, i0, rfl, _⟩ := h
    rfl
  · obtain ⟨wv, n, ts, o, sa, us, rs, es, k, p, row, i0, rfl, hW, ho, hp, od, tw, le, hk, er, ei, hst, q⟩ := h
    refine ⟨_, (pss_cons (ps_asg (pe_ix ix_tup (pe_ix ix_tup (pv 0) pe_int (fun _ _ => rfl)) (pe_ix ix_tup (pv 2) pe_int (fun _ _ => rfl)) (fun _ _ => rfl)) (pg_tup rfl (pgs_cons (pg_name (i := 3) sc_l_behind.nd rfl (.inl rfl)) (pgs_cons (pg_name (i := 4) sc_l_behind.nd rfl (.inl rfl)) (pgs_cons (pg_name (i := 5) sc_l_behind.nd rfl (.inl rfl)) pgs_nil)))))
      (pss_cons (ps_set (i := 6) sc_l_behind.nd rfl (.inl rfl) (pe_op op_sub (pe_op op_add (pv 3) (pv 4)) (pe_ix ix_tup (pv 2) pe_int (fun _ _ => rfl))))
      (pss_cons (ps_set (i := 7) sc_l_behind.nd rfl (.inl rfl) (pe_ix ix_tup (pv 1) (pv 6) (fun _ _ => rfl)))
      (pss_cons (ps_for PassesOwn.never rfl (pi_range1 (by rfl) M.range (pa_cons (pe_callB call_len_seq (by rfl) M.len PySem.boot_len (pa_cons (pv 7) pa_nil)) pa_nil)) (pg_name (i := 8) sc_l_behind.nd rfl (.inl rfl))
        (pss_one (ps_if (pt_cmpR op_eq (pe_ix ix_tup (pv 7) (pe_op op_sub (pv 8) pe_int) (fun _ _ => rfl)) (pe_ix ix_tup (pv 2) pe_int (fun _ _ => rfl)) (nomark _))
          (pss_one (ps_ret (pe_tup (pa_cons (pe_ix ix_tup (pv 7) (pv 8) (fun _ _ => rfl)) (pa_cons (pv 6) pa_nil)))))
          pss_nil)))
      (pss_one (ps_ret pe_non)))))), ?_⟩
    obtain ⟨wa, wb, ws, rfl, hwa, hwb, hpw⟩ := id hW
    obtain ⟨e, ee⟩ : ∃ e, es[k]? = some e := ⟨_, List.getElem?_eq_getElem hk⟩
    obtain ⟨t, et⟩ : ∃ t, ts[k]? = some t := ⟨_, List.getElem?_eq_getElem (by rw [tw.1]; exact hk)⟩
    have jt := tw.2 k t e et ee
    obtain ⟨u, eu, tc, rfl, htc⟩ := Paired.at' hpw et
    obtain ⟨u2, eu2, ra, rfl, hra⟩ := Paired.at' hp er
    have oe : othE es k p = e.1 + e.2 - (p : Int) := by
      unfold othE
      rw [List.getD_eq_getElem?_getD, Int.toNat_natCast, ee]
      rfl
    have ep : t.one + t.other - othE es k p = (p : Nat) := by rw [oe]; omega
    have hil := (List.getElem?_eq_some_iff.mp ei).1
    have hie := (List.getElem?_eq_some_iff.mp ei).2
    have ndr := od.nd row (List.mem_of_getElem? er)
    have lrow := od.row_len (List.mem_of_getElem? er)
    refine ⟨.ref wa, rfl, wa, _, 1, .ref wb, rfl, rfl, SqT.of hwa, rfl, .ref sa, rfl, sa, _, 0, .int (k : Nat), rfl, rfl, SqT.of hst, rfl, wb, ws, (k : Nat), .ref tc, rfl, rfl, SqT.of hwb, atI_nat eu, tc, _, rfl, SqT.of htc, rfl, _, _, rfl, _, _, rfl, _, _, rfl, rfl, ?_⟩
    refine ⟨.int t.one, rfl, .int t.other, rfl, _, _, rfl, rfl, .ref sa, rfl, sa, _, 1, .int (othE es k p), rfl, rfl, SqT.of hst, rfl, _, _, rfl, rfl, ?_⟩
    refine ⟨.ref o, rfl, .int (t.one + t.other - othE es k p), rfl, o, us, t.one + t.other - othE es k p, .ref ra, rfl, rfl, SqT.of ho, by rw [ep]; exact atI_nat eu2, ?_⟩
    refine ⟨.ref ra, rfl, ra, _, rfl, .inr (SqT.of hra), _, rfl, by omega, by rw [List.length_map]; omega, ?_⟩
    rw [List.length_map, Int.toNat_natCast]
    refine for_range (lo := 0) (n := row.length) (fun j σ' H' => ∃ y8 : Option V, σ' = [some (.ref wa), some (.ref o), some (.ref sa), some (.int t.one), some (.int t.other), some (.str (kindS t.foe)), some (.int (t.one + t.other - othE es k p)), some (.ref ra), y8] ∧ j ≤ (i0 + 1) % row.length ∧ Same H H') ⟨none, rfl, Nat.zero_le _, Same.refl _⟩ ?_ ?_
    · rintro j σ' H2 hj ⟨y8, rfl, jl, s2⟩
      obtain ⟨j', hj', ej'⟩ : ∃ j', j' < row.length ∧ atI (row.map V.int) ((0 : Int) + (j : Nat) - 1) = some (.int (row.getD j' 0)) ∧ (j = (i0 + 1) % row.length ↔ j' = i0) := by
        cases j with
        | zero =>
          refine ⟨row.length - 1, by omega, atI_last (xs := row.map V.int) (by rw [List.length_map, List.getElem?_map, List.getElem?_eq_getElem (show row.length - 1 < row.length by omega), List.getD_eq_getElem?_getD, List.getElem?_eq_getElem (show row.length - 1 < row.length by omega)]; rfl), ?_⟩
          constructor
          · intro z
            by_cases h : i0 + 1 < row.length
            · rw [Nat.mod_eq_of_lt h] at z; omega
            · omega
          · intro z
            rw [show i0 + 1 = row.length by omega, Nat.mod_self]
        | succ j =>
          refine ⟨j, by omega, ?_, ?_⟩
          · rw [show (0 : Int) + ((j + 1 : Nat) : Int) - 1 = (j : Nat) by omega]
            exact atI_nat (by rw [List.getElem?_map, List.getElem?_eq_getElem (show j < row.length by omega), List.getD_eq_getElem?_getD, List.getElem?_eq_getElem (show j < row.length by omega)]; rfl)
          · constructor
            · intro z
              by_cases h : i0 + 1 < row.length
              · rw [Nat.mod_eq_of_lt h] at z; omega
              · rw [show i0 + 1 = row.length by omega, Nat.mod_self] at z; omega
            · intro z
              rw [← z, Nat.mod_eq_of_lt hj]
      refine ⟨.ref ra, rfl, .int (0 + (j : Nat)), rfl, _, _, rfl, rfl, ra, _, (0 : Int) + (j : Nat) - 1, .int (row.getD j' 0), rfl, rfl, SqT.of (s2 _ _ hra), ej'.1, .ref sa, rfl, sa, _, 0, .int (k : Nat), rfl, rfl, SqT.of (s2 _ _ hst), rfl, rfl, _, rfl, ?_⟩
      rw [dec_intF]
      have gj : row.getD j' 0 = row[j'] := by rw [List.getD_eq_getElem?_getD, List.getElem?_eq_getElem hj']; rfl
      by_cases c : j' = i0
      · have hjm := ej'.2.mpr c
        rw [decide_eq_true (show row.getD j' 0 = ((k : Nat) : Int) by rw [gj, ← hie]; congr 1)]
        have gm : row.getD ((i0 + 1) % row.length) 0 = row[j] := by rw [← hjm, List.getD_eq_getElem?_getD, List.getElem?_eq_getElem hj]; rfl
        refine ⟨.ref ra, rfl, .int (0 + (j : Nat)), rfl, ra, _, (0 : Int) + (j : Nat), .int row[j], rfl, rfl, SqT.of (s2 _ _ hra), by rw [Int.zero_add]; exact atI_nat (by rw [List.getElem?_map, List.getElem?_eq_getElem hj]; rfl), .int (t.one + t.other - othE es k p), rfl, by show 2 ≤ sizeLine; decide, fun r nr => ?_⟩
        refine q r _ (s2.trans (same_new nr)) ?_
        rw [gm, ep]
        exact upd_same
      · rw [decide_eq_false (show ¬ row.getD j' 0 = ((k : Nat) : Int) from fun z => by
          rw [gj, ← hie] at z
          rcases Nat.lt_or_gt_of_ne c with lt | lt
          · exact List.pairwise_iff_getElem.mp ndr j' i0 hj' hil lt z
          · exact List.pairwise_iff_getElem.mp ndr i0 j' hil hj' lt z.symm)]
        exact ⟨_, rfl, by have := fun z => c (ej'.2.mp z); omega, s2⟩
    · rintro σ' H2 ⟨y8, rfl, jl, s2⟩
      have := Nat.mod_lt (i0 + 1) (show 0 < row.length by omega)
      omega
end
/-! ### flats: ways round (mathematics) -/
theorem sub_lenG {α : Type} [DecidableEq α] : ∀ {xs ys : List α}, xs.Nodup → (∀ x ∈ xs, x ∈ ys) → xs.length ≤ ys.length
  | [], _, _, _ => Nat.zero_le _
  | x :: xs, ys, nd, h => by
    have nd' := List.nodup_cons.mp nd
    have hx := h x List.mem_cons_self
    have := sub_lenG (ys := ys.erase x) nd'.2 fun y hy => (List.mem_erase_of_ne (show y ≠ x from fun z => nd'.1 (z ▸ hy))).mpr (h y (List.mem_cons_of_mem _ hy))
    rw [List.length_erase_of_mem hx] at this
    have := List.length_pos_of_mem hx
    rw [List.length_cons]
    omega
def itF (f : Int × Int → Int × Int) : Nat → Int × Int → Int × Int
  | 0, x => x
  | n + 1, x => f (itF f n x)
def nxB (bs : List St2) (x : Int × Int) : Int × Int := ((bs.find? fun b => decide (b.1 = x)).map (·.2)).getD x
theorem nxB_mem {bs : List St2} {x : Int × Int} (h : x ∈ bs.map (·.1)) : (x, nxB bs x) ∈ bs := by
  unfold nxB
  cases e : bs.find? fun b => decide (b.1 = x) with
  | some b =>
    have h1 := List.mem_of_find?_eq_some e
    have h2 : b.1 = x := of_decide_eq_true (List.find?_some (p := fun b : St2 => decide (b.1 = x)) e)
    show (x, b.2) ∈ bs
    rw [← h2]
    exact h1
  | none =>
    obtain ⟨b, hb, rfl⟩ := List.mem_map.mp h
    have := List.find?_eq_none.mp e b hb
    simp at this
structure Rnd (bs : List St2) : Prop where
  nk : (bs.map (·.1)).Nodup
  nv : (bs.map (·.2)).Nodup
  cl : ∀ b ∈ bs, b.2 ∈ bs.map (·.1)
theorem nd_inj {α β : Type} {f : α → β} : ∀ {xs : List α}, (xs.map f).Nodup → ∀ {a b : α}, a ∈ xs → b ∈ xs → f a = f b → a = b
  | x :: xs, nd, a, b, ha, hb, e => by
    rw [List.map_cons] at nd
    have nd' := List.nodup_cons.mp nd
    rcases List.mem_cons.mp ha with e1 | ha'
    · rcases List.mem_cons.mp hb with e2 | hb'
      · rw [e1, e2]
      · exact (nd'.1 (List.mem_map.mpr ⟨b, hb', by rw [← e, e1]⟩)).elim
    · rcases List.mem_cons.mp hb with e2 | hb'
      · exact (nd'.1 (List.mem_map.mpr ⟨a, ha', by rw [e, e2]⟩)).elim
      · exact nd_inj nd'.2 ha' hb' e
theorem Rnd.inj {bs : List St2} (r : Rnd bs) {x y : Int × Int} (hx : x ∈ bs.map (·.1)) (hy : y ∈ bs.map (·.1)) (e : nxB bs x = nxB bs y) : x = y := by
  have := nd_inj r.nv (nxB_mem hx) (nxB_mem hy) e
  exact (Prod.mk.injEq .. ▸ this).1
theorem Rnd.key {bs : List St2} (r : Rnd bs) {x : Int × Int} (hx : x ∈ bs.map (·.1)) : nxB bs x ∈ bs.map (·.1) := r.cl _ (nxB_mem hx)
theorem Rnd.it {bs : List St2} (r : Rnd bs) {x : Int × Int} (hx : x ∈ bs.map (·.1)) : ∀ n, itF (nxB bs) n x ∈ bs.map (·.1)
  | 0 => hx
  | n + 1 => r.key (r.it hx n)
theorem Rnd.back {bs : List St2} (r : Rnd bs) {x : Int × Int} (hx : x ∈ bs.map (·.1)) (d : Nat) : ∀ i, itF (nxB bs) (d + i) x = itF (nxB bs) i x → itF (nxB bs) d x = x
  | 0, e => e
  | i + 1, e => r.back hx d i (r.inj (r.it hx _) (r.it hx _) e)
theorem Rnd.ret {bs : List St2} (r : Rnd bs) {s : Int × Int} (hs : s ∈ bs.map (·.1)) : ∃ c, 1 ≤ c ∧ c ≤ bs.length ∧ itF (nxB bs) c s = s := by
  refine Classical.byContradiction fun no => ?_
  have nd : ((List.range (bs.length + 1)).map fun n => itF (nxB bs) n s).Nodup := by
    rw [List.nodup_iff_pairwise_ne, List.pairwise_map]
    refine (List.pairwise_lt_range).imp_of_mem fun {a b} ha hb lt e => no ⟨b - a, by omega, by have := List.mem_range.mp hb; omega, r.back hs (b - a) a ?_⟩
    rw [show b - a + a = b by omega]
    exact e.symm
  have := sub_lenG nd fun y hy => by
    obtain ⟨n, _, rfl⟩ := List.mem_map.mp hy
    exact r.it hs n
  rw [List.length_map, List.length_range, List.length_map] at this
  omega
theorem least_of {p : Nat → Prop} : ∀ (m c : Nat), c ≤ m → p c → ∃ k, k ≤ c ∧ p k ∧ ∀ j, j < k → ¬ p j
  | m, c, hm, h => by
    by_cases e : ∃ j, j < c ∧ p j
    · obtain ⟨j, jl, hj⟩ := e
      cases m with
      | zero => omega
      | succ m =>
        obtain ⟨k, k1, k2, k3⟩ := least_of m j (by omega) hj
        exact ⟨k, by omega, k2, k3⟩
    · exact ⟨c, Nat.le_refl _, h, fun j jl hj => e ⟨j, jl, hj⟩⟩
theorem Rnd.cyc {bs : List St2} (r : Rnd bs) {s : Int × Int} (hs : s ∈ bs.map (·.1)) : ∃ c, 1 ≤ c ∧ c ≤ bs.length ∧ itF (nxB bs) c s = s ∧ (∀ j, 0 < j → j < c → itF (nxB bs) j s ≠ s) ∧ Cyc bs s ((List.range c).map fun n => itF (nxB bs) n s) := by
  obtain ⟨c0, c1, c2, c3⟩ := r.ret hs
  obtain ⟨c, k1, ⟨k2, k3⟩, k4⟩ := least_of (p := fun c => 1 ≤ c ∧ itF (nxB bs) c s = s) c0 c0 (Nat.le_refl _) ⟨c1, c3⟩
  have at' : ∀ (i : Nat) (x : Int × Int), ((List.range c).map fun n => itF (nxB bs) n s)[i]? = some x → i < c ∧ x = itF (nxB bs) i s := fun i x e => by
    have hl := (List.getElem?_eq_some_iff.mp e).1
    rw [List.length_map, List.length_range] at hl
    rw [List.getElem?_map, List.getElem?_range hl] at e
    exact ⟨hl, (Option.some.inj e).symm⟩
  refine ⟨c, k2, by omega, k3, fun j j0 jc z => k4 j jc ⟨by omega, z⟩, ?_, fun i x y ex ey => ?_, fun x ex => ?_, fun i x i0 ex z => ?_⟩
  · rw [List.getElem?_map, List.getElem?_range (by omega)]
    rfl
  · obtain ⟨_, rfl⟩ := at' i x ex
    obtain ⟨_, rfl⟩ := at' _ y ey
    exact nxB_mem (r.it hs i)
  · obtain ⟨h, rfl⟩ := at' _ x ex
    rw [List.length_map, List.length_range] at *
    have := nxB_mem (r.it hs (c - 1))
    have e : nxB bs (itF (nxB bs) (c - 1) s) = s := by
      show itF (nxB bs) (c - 1 + 1) s = s
      rw [show c - 1 + 1 = c by omega, k3]
    rw [e] at this
    exact this
  · obtain ⟨h, rfl⟩ := at' _ x ex
    exact k4 i h ⟨by omega, z⟩
/-- the steps of orders go round -/
theorem stepsB_nk {rs : List (List Int)} {es : List (Int × Int)} (od : Ord rs es) : ∀ m, m ≤ rs.length → ((stepsB es rs m).map (·.1)).Nodup
  | 0, _ => List.nodup_nil
  | m + 1, h => by
    have er := List.getElem?_eq_getElem (show m < rs.length by omega)
    have eg : rs.getD m [] = rs[m] := by rw [List.getD_eq_getElem?_getD, er]; rfl
    have nd := od.nd _ (List.mem_of_getElem? er)
    have go : ∀ j, j ≤ rs[m].length → ((stepsB es rs m ++ stepR es m rs[m] j).map (·.1)).Nodup := fun j => by
      induction j with
      | zero =>
        intro _
        rw [show stepR es m rs[m] 0 = [] from rfl, List.append_nil]
        exact stepsB_nk od m (by omega)
      | succ j ih =>
        intro hj
        rw [stepR_succ, ← List.append_assoc, List.map_append]
        refine List.nodup_append.mpr ⟨ih (by omega), by simp, fun a ha b hb e => ?_⟩
        rw [List.map_cons, List.map_nil, List.mem_singleton] at hb
        subst hb
        obtain ⟨c, hc, rfl⟩ := List.mem_map.mp ha
        exact step_new er nd (by omega) c hc e
    rw [stepsB_succ, eg]
    exact go _ (Nat.le_refl _)
/-! ### flats: the steps of orders go round (mathematics) -/
theorem stepR_memI {es : List (Int × Int)} {p : Nat} {row : List Int} {m : Nat} {b : St2} : b ∈ stepR es p row m ↔ ∃ i, i < m ∧ b = ((row.getD i 0, othE es (row.getD i 0) p), (row.getD ((i + 1) % row.length) 0, (p : Int))) := by
  unfold stepR
  rw [List.mem_map]
  exact ⟨fun ⟨i, hi, e⟩ => ⟨i, List.mem_range.mp hi, e.symm⟩, fun ⟨i, hi, e⟩ => ⟨i, List.mem_range.mpr hi, e.symm⟩⟩
theorem stepsB_mem {es : List (Int × Int)} {rs : List (List Int)} {m : Nat} {b : St2} : b ∈ stepsB es rs m ↔ ∃ p, p < m ∧ b ∈ stepR es p (rs.getD p []) (rs.getD p []).length := by
  unfold stepsB
  rw [List.mem_flatMap]
  exact ⟨fun ⟨p, hp, e⟩ => ⟨p, List.mem_range.mp hp, e⟩, fun ⟨p, hp, e⟩ => ⟨p, List.mem_range.mpr hp, e⟩⟩
theorem getD_inj {row : List Int} (nd : row.Nodup) {i j : Nat} (hi : i < row.length) (hj : j < row.length) (e : row.getD i 0 = row.getD j 0) : i = j := by
  rw [List.getD_eq_getElem?_getD, List.getD_eq_getElem?_getD, List.getElem?_eq_getElem hi, List.getElem?_eq_getElem hj] at e
  refine Classical.byContradiction fun ne => ?_
  rcases Nat.lt_or_gt_of_ne ne with lt | lt
  · exact List.pairwise_iff_getElem.mp nd i j hi hj lt e
  · exact List.pairwise_iff_getElem.mp nd j i hj hi lt e.symm
theorem mod_inj {n i j : Nat} (hi : i < n) (hj : j < n) (e : (i + 1) % n = (j + 1) % n) : i = j := by
  by_cases h1 : i + 1 < n <;> by_cases h2 : j + 1 < n
  · rw [Nat.mod_eq_of_lt h1, Nat.mod_eq_of_lt h2] at e; omega
  · rw [Nat.mod_eq_of_lt h1, show j + 1 = n by omega, Nat.mod_self] at e; omega
  · rw [Nat.mod_eq_of_lt h2, show i + 1 = n by omega, Nat.mod_self] at e; omega
  · omega
theorem stepsB_nv {rs : List (List Int)} {es : List (Int × Int)} (od : Ord rs es) : ∀ m, m ≤ rs.length → ((stepsB es rs m).map (·.2)).Nodup
  | 0, _ => List.nodup_nil
  | m + 1, h => by
    have er := List.getElem?_eq_getElem (show m < rs.length by omega)
    have eg : rs.getD m [] = rs[m] := by rw [List.getD_eq_getElem?_getD, er]; rfl
    have nd := od.nd _ (List.mem_of_getElem? er)
    have go : ∀ j, j ≤ rs[m].length → ((stepsB es rs m ++ stepR es m rs[m] j).map (·.2)).Nodup := fun j => by
      induction j with
      | zero =>
        intro _
        rw [show stepR es m rs[m] 0 = [] from rfl, List.append_nil]
        exact stepsB_nv od m (by omega)
      | succ j ih =>
        intro hj
        rw [stepR_succ, ← List.append_assoc, List.map_append]
        refine List.nodup_append.mpr ⟨ih (by omega), by simp, fun a ha b hb e => ?_⟩
        rw [List.map_cons, List.map_nil, List.mem_singleton] at hb
        subst hb
        obtain ⟨c, hc, rfl⟩ := List.mem_map.mp ha
        have e1 := (Prod.mk.injEq .. ▸ e).1
        have e2 := (Prod.mk.injEq .. ▸ e).2
        rcases List.mem_append.mp hc with z | z
        · obtain ⟨p, hp, z⟩ := stepsB_mem.mp z
          obtain ⟨i, _, rfl⟩ := stepR_memI.mp z
          have : (p : Int) = (m : Int) := e2
          omega
        · obtain ⟨i, hi, rfl⟩ := stepR_memI.mp z
          have := getD_inj nd (Nat.mod_lt _ (by omega)) (Nat.mod_lt _ (by omega)) e1
          have := mod_inj (by omega) (by omega) this
          omega
    rw [stepsB_succ, eg]
    exact go _ (Nat.le_refl _)
/-- which steps there are: each tie towards each of its ends -/
theorem stepsB_key {rs : List (List Int)} {es : List (Int × Int)} (od : Ord rs es) {x : Int × Int} : x ∈ (stepsB es rs rs.length).map (·.1) ↔ ∃ (k : Nat) (e : Int × Int), es[k]? = some e ∧ x.1 = (k : Int) ∧ (x.2 = e.1 ∨ x.2 = e.2) := by
  have oth : ∀ {k : Nat} {e : Int × Int} {p : Int}, es[k]? = some e → othE es (k : Int) p = e.1 + e.2 - p := fun {k e p} ee => by
    unfold othE
    rw [List.getD_eq_getElem?_getD, Int.toNat_natCast, ee]
    rfl
  constructor
  · intro h
    obtain ⟨b, hb, rfl⟩ := List.mem_map.mp h
    obtain ⟨p, hp, z⟩ := stepsB_mem.mp hb
    have er := List.getElem?_eq_getElem hp
    have eg : rs.getD p [] = rs[p] := by rw [List.getD_eq_getElem?_getD, er]; rfl
    rw [eg] at z
    obtain ⟨i, hi, rfl⟩ := stepR_memI.mp z
    have hm : rs[p].getD i 0 ∈ rs[p] := by
      rw [List.getD_eq_getElem?_getD, List.getElem?_eq_getElem hi]
      exact List.getElem_mem _
    obtain ⟨k, e, ek, ee, pe⟩ := (od.mem p _ er _).mp hm
    refine ⟨k, e, ee, ek, ?_⟩
    show othE es (rs[p].getD i 0) p = e.1 ∨ othE es (rs[p].getD i 0) p = e.2
    rw [ek, oth ee]
    omega
  · rintro ⟨k, e, ee, e1, e2⟩
    have ends := od.ends e (List.mem_of_getElem? ee)
    obtain ⟨p, hp, ep⟩ : ∃ p : Nat, p < rs.length ∧ (p : Int) = e.1 + e.2 - x.2 := ⟨(e.1 + e.2 - x.2).toNat, by omega, by omega⟩
    have er := List.getElem?_eq_getElem hp
    have hm : ((k : Nat) : Int) ∈ rs[p] := (od.mem p _ er _).mpr ⟨k, e, rfl, ee, by omega⟩
    obtain ⟨i, hi, ei⟩ := List.getElem_of_mem hm
    have eg : rs.getD p [] = rs[p] := by rw [List.getD_eq_getElem?_getD, er]; rfl
    refine List.mem_map.mpr ⟨_, stepsB_mem.mpr ⟨p, hp, stepR_memI.mpr ⟨i, by rw [eg]; exact hi, rfl⟩⟩, ?_⟩
    have gi : (rs.getD p []).getD i 0 = ((k : Nat) : Int) := by rw [eg, List.getD_eq_getElem?_getD, List.getElem?_eq_getElem hi, ei]; rfl
    show ((rs.getD p []).getD i 0, othE es ((rs.getD p []).getD i 0) p) = x
    rw [gi, oth ee, ep]
    refine Prod.ext e1.symm ?_
    show e.1 + e.2 - (e.1 + e.2 - x.2) = x.2
    omega
theorem stepsB_rnd {rs : List (List Int)} {es : List (Int × Int)} (od : Ord rs es) : Rnd (stepsB es rs rs.length) := by
  refine ⟨stepsB_nk od _ (Nat.le_refl _), stepsB_nv od _ (Nat.le_refl _), fun b hb => ?_⟩
  obtain ⟨p, hp, z⟩ := stepsB_mem.mp hb
  have er := List.getElem?_eq_getElem hp
  have eg : rs.getD p [] = rs[p] := by rw [List.getD_eq_getElem?_getD, er]; rfl
  rw [eg] at z
  obtain ⟨i, hi, rfl⟩ := stepR_memI.mp z
  have hm : rs[p].getD ((i + 1) % rs[p].length) 0 ∈ rs[p] := by
    rw [List.getD_eq_getElem?_getD, List.getElem?_eq_getElem (Nat.mod_lt _ (by omega))]
    exact List.getElem_mem _
  obtain ⟨k, e, ek, ee, pe⟩ := (od.mem p _ er _).mp hm
  exact (stepsB_key od).mpr ⟨k, e, ee, ek, by show (p : Int) = e.1 ∨ (p : Int) = e.2; omega⟩
/-! ### flats: sorted(d), the keys of d pairs of ints -/
def kPr (H : Hp) (v : Value) : Int × Int := match v with
  | .ref t => (match H t with
    | some (.tup [.int x, .int y]) => (x, y)
    | _ => (0, 0))
  | _ => (0, 0)
section
variable {X : Cx}
theorem call_sortedDP (hcalm : X.calm = true) : CallR X (.builtin "sorted") (fun xs H Q => ∃ (a : Addr) (kvs : List (List Key × V)) (bs : List St2), xs = [.ref a] ∧ H a = some (.dT kvs) ∧ Paired (BhV H) kvs bs ∧
    ∀ (ys : List V) (zs : List (Int × Int)) (p : Addr), Paired (PrV H) ys zs → zs.Perm (bs.map (·.1)) → zs.Pairwise (fun x y => SrtO.lexB y x = false) → H p = none → Q (.ref p) (upd H p (.lst ys))) := by
  intro pins s σ H xs us Q I r q
  obtain ⟨a, kvs, bs, ex, hd, hb, q⟩ := q
  subst ex
  obtain ⟨u, eu, rx⟩ := vals1 r
  subst eu
  cases rx
  obtain ⟨z, lo, ms, pr, o', es, ep, ho, hx, hdt, he, _⟩ := (show ObjOk X.prog X.w H s.heap a (.dT kvs) from I.hok a _ hd)
  have hraw : s.heap.DictRaw a es ep := ⟨o', ho, hx, hdt⟩
  have lE : es.size = kvs.length := by
    have l1 : es.size = ms.length := size_of_entries he
    have l2 : kvs.length = ms.length := Paired.length pr
    omega
  have lB : kvs.length = bs.length := Paired.length hb
  have ent : ∀ (i : Nat) (b : St2), bs[i]? = some b → ∃ (en : DictEntry) (t : Addr), es[i]? = some en ∧ en.key = .ref t ∧ H t = some (.tup [.int b.1.1, .int b.1.2]) := fun i b e => by
    obtain ⟨kv, ekv, h1, _⟩ := Paired.at' hb e
    obtain ⟨m, hm, e1, e2, _⟩ := paired_get pr ekv
    have g := entry_at he i
    rw [hm] at g
    rw [h1] at e2
    exact ⟨_, m.2.1, g, rfl, e2⟩
  refine Calls.call_function_entry PyProof.Rows.kind_sorted PyProof.Rows.plain_sorted PyProof.Rows.entry_sorted (PyProof.Rows.args_sorted1 _) ?_
  unfold Builtin.«sorted»
  refine wpAny_bind (m := checkCount "sorted" 1 1 _) (wpAny_pure ?_)
  refine wpAny_bind (PySem.W.kdu_collect (A := X.A.in1) (KdlSrc.rawDict lo) (I.ok.hd hcalm) hraw (by rw [lE]; exact z) fun h' tk acc hk hacc => ?_)
  have hal : acc.toList.length = bs.length := by rw [Array.length_toList, hacc.1, lE, lB]
  have each : ∀ (i : Nat) (b : St2), bs[i]? = some b → ∃ t : Addr, acc.toList[i]? = some (.ref t) ∧ H t = some (.tup [.int b.1.1, .int b.1.2]) := fun i b e => by
    obtain ⟨en, t, e1, e2, e3⟩ := ent i b e
    have il := (List.getElem?_eq_some_iff.mp e).1
    have ea := List.getElem?_eq_getElem (show i < acc.toList.length by omega)
    obtain ⟨hi, hv⟩ := hacc.2 i acc.toList[i] (by rw [← Array.getElem?_toList]; exact ea)
    have e4 : es[i] = en := by
      rw [Array.getElem?_eq_getElem hi] at e1
      exact Option.some.inj e1
    rw [e4, e2] at hv
    exact ⟨t, by rw [ea, hv], e3⟩
  have inv : ∀ v ∈ acc.toList, ∃ (t : Addr) (b : St2), v = .ref t ∧ H t = some (.tup [.int b.1.1, .int b.1.2]) ∧ kPr H v = b.1 := fun v hv => by
    obtain ⟨i, hi⟩ := List.getElem?_of_mem hv
    have il := (List.getElem?_eq_some_iff.mp hi).1
    obtain ⟨t, e1, e2⟩ := each i _ (List.getElem?_eq_getElem (show i < bs.length by omega))
    rw [hi] at e1
    obtain rfl := Option.some.inj e1
    exact ⟨t, _, rfl, e2, by unfold kPr; simp only [e2]⟩
  have em : acc.toList.map (kPr H) = bs.map (·.1) := by
    refine List.ext_getElem? fun i => ?_
    rw [List.getElem?_map, List.getElem?_map]
    by_cases il : i < bs.length
    · obtain ⟨t, e1, e2⟩ := each i _ (List.getElem?_eq_getElem il)
      rw [e1, List.getElem?_eq_getElem il]
      show some (kPr H (.ref t)) = _
      unfold kPr
      simp only [e2]
      rfl
    · rw [List.getElem?_eq_none (by omega), List.getElem?_eq_none (by omega)]
      rfl
  have I1 : Inv X pins σ H { s with heap := h', toks := tk } := I.kept hk
  have hz : acc.toList.length ≤ sizeLine := by omega
  have pair : ∀ v ∈ acc.toList, Srt.IsPair h' v (kPr H v).1 (kPr H v).2 := fun v hv => by
    obtain ⟨t, b, rfl, ht, ek⟩ := inv v hv
    obtain ⟨_, its2, r2, o, ho, hc, n, hd⟩ := I1.hok _ _ ht
    obtain ⟨u1, u2, rfl, ri, rj⟩ := vals2 r2
    obtain ⟨t1, rfl⟩ := ri
    obtain ⟨t2, rfl⟩ := rj
    rw [ek]
    exact ⟨t, o, t1, t2, n, rfl, ho, hc, hd⟩
  refine wpAny_bind (wpAny_newList ?_ hz)
  have hoL : (h'.push (seqObj "list" acc.toList.toArray 0)).get? h'.objs.size = some (seqObj "list" acc.toList.toArray 0) := Heap.get?_push_size _ rfl
  show wpAny _ _ _ _ _ { s with heap := h'.push (seqObj "list" acc.toList.toArray 0), toks := tk }
  refine wpAny_bind (wpAny_holding (wpAny_call_entry PyProof.Rows.slot_list_sort ⟨_, hoL, rfl⟩ PyProof.Rows.entry_list_sort
    (SrtO.list_sort_ord (s := { s with heap := h'.push (seqObj "list" acc.toList.toArray 0), toks := tk }) (SrtO.swo_lex (kPr H)) hoL hz (fun h2 => SrtO.pairs_sortableO (by omega) (fun v hv => (pair v hv).keeps fun b o e _ => Heap.get?_push_of_some _ e) fun o e => ?_) fun out g1 g2 => ⟨_, rfl, ?_⟩) (PyProof.Rows.args_list_sort _)))
  · have e' : some o = some (seqObj "list" acc.toList.toArray 0) := e.symm.trans hoL
    cases e'
    intro c
    exact absurd (Value.type.inj c) (by decide)
  · obtain ⟨e', he'⟩ := PyProof.Rows.sortedHeap_at (vs := acc.toList) (out := out.toArray) hoL
    have hout : ∀ v ∈ out, v ∈ acc.toList := fun v hv => g2.perm.mem_iff.mp hv
    have refs : ∀ v ∈ out, ∃ a, v = Value.ref a := fun v hv => by
      obtain ⟨t, _, e, _⟩ := inv v (hout v hv)
      exact ⟨t, e⟩
    have prs : ∀ l : List Value, (∀ v ∈ l, v ∈ acc.toList) → Paired (PrV H) (l.map backV) (l.map (kPr H)) := fun l => by
      induction l with
      | nil => intro _; exact .nil
      | cons v l ih =>
        intro hl
        obtain ⟨t, b, rfl, ht, ek⟩ := inv v (hl v List.mem_cons_self)
        refine .cons ⟨t, rfl, ?_⟩ (ih fun u hu => hl u (List.mem_cons_of_mem _ hu))
        rw [ek]
        exact ht
    have hlen : (out.map backV).length ≤ sizeLine := by
      rw [List.length_map, g2.perm.length_eq]
      exact hz
    refine wpAny_pure ⟨_, rfl, .ref h'.objs.size, upd H h'.objs.size (.lst (out.map backV)), I1.laid (t' := tk) (fun b u e => ?_) (Nat.le_refl _)
      (show ObjOk X.prog X.w _ _ _ (.lst (out.map backV)) from ⟨hlen, out, e', vals_back refs, he'⟩), rfl, q (out.map backV) (out.map (kPr H)) _ (prs out hout) ?_ ?_ (I1.hok.fresh (Nat.le_refl _))⟩
    · have hb : b < h'.objs.size := Heap.lt_size e
      rw [PyProof.Rows.sortedHeap_old (Nat.ne_of_lt hb) (by rw [size_push']; exact Nat.lt_succ_of_lt hb)]
      exact Heap.get?_push_of_some _ e
    · rw [← em]
      exact g2.perm.map _
    · rw [List.pairwise_map]
      exact g1
end
/-! ### flats: faces_of -/
def kvP (P : List (Int × Int)) : List (List Key × V) := P.map fun q => ([Sum.inl q.1, Sum.inl q.2], V.bl true)
def addP (P : List (Int × Int)) (q : Int × Int) : List (Int × Int) := if q ∈ P then P else P ++ [q]
theorem kvP_val {q : Int × Int} : ∀ {P : List (Int × Int)}, valV (kvP P) [Sum.inl q.1, Sum.inl q.2] = if q ∈ P then some (.bl true) else none
  | [] => rfl
  | p :: P => by
    show valV (([Sum.inl p.1, Sum.inl p.2], V.bl true) :: kvP P) [Sum.inl q.1, Sum.inl q.2] = _
    by_cases e : p = q
    · rw [valV_pos (p := (([Sum.inl p.1, Sum.inl p.2] : List Key), V.bl true)) (by rw [e]), e, if_pos List.mem_cons_self]
    · rw [valV_neg (p := (([Sum.inl p.1, Sum.inl p.2] : List Key), V.bl true)) (fun z => by
        simp only [List.cons.injEq, Sum.inl.injEq, and_true] at z
        exact e (Prod.ext z.1 z.2)), kvP_val (P := P)]
      by_cases h : q ∈ P
      · rw [if_pos h, if_pos (List.mem_cons_of_mem _ h)]
      · rw [if_neg h, if_neg fun z => h ((List.mem_cons.mp z).resolve_left fun y => e y.symm)]
theorem kvP_put {P : List (Int × Int)} {q : Int × Int} : putK (kvP P) [Sum.inl q.1, Sum.inl q.2] (.bl true) = kvP (addP P q) := by
  unfold putK
  rw [valV_any, kvP_val]
  unfold addP
  by_cases h : q ∈ P
  · rw [if_pos h, if_pos h]
    show List.map (fun kv : List Key × V => if kv.1 = [Sum.inl q.1, Sum.inl q.2] then (kv.1, V.bl true) else kv) (kvP P) = _
    unfold kvP
    rw [List.map_map]
    refine List.map_congr_left fun p _ => ?_
    show (if ([Sum.inl p.1, Sum.inl p.2] : List Key) = [Sum.inl q.1, Sum.inl q.2] then (([Sum.inl p.1, Sum.inl p.2] : List Key), V.bl true) else ([Sum.inl p.1, Sum.inl p.2], V.bl true)) = _
    split <;> rfl
  · rw [if_neg h, if_neg h, if_neg (by simp)]
    unfold kvP
    rw [List.map_append]
    rfl
theorem addP_nd {P : List (Int × Int)} {q : Int × Int} (nd : P.Nodup) : (addP P q).Nodup := by
  unfold addP
  split
  · exact nd
  · rename_i h
    exact List.nodup_append.mpr ⟨nd, by simp, fun a ha b hb e => h (by rw [List.mem_singleton.mp hb] at e; exact e ▸ ha)⟩
theorem addP_mem {P : List (Int × Int)} {q x : Int × Int} : x ∈ addP P q ↔ x ∈ P ∨ x = q := by
  unfold addP
  split
  · rename_i h
    exact ⟨.inl, fun z => z.elim id fun e => e ▸ h⟩
  · simp
open Classical in
noncomputable def perB (bs : List St2) (s : Int × Int) : Nat := epsilon fun c => 1 ≤ c ∧ c ≤ bs.length ∧ itF (nxB bs) c s = s ∧ (∀ j, 0 < j → j < c → itF (nxB bs) j s ≠ s) ∧ Cyc bs s ((List.range c).map fun n => itF (nxB bs) n s)
noncomputable def cycB (bs : List St2) (s : Int × Int) : List (Int × Int) := (List.range (perB bs s)).map fun n => itF (nxB bs) n s
theorem Rnd.per {bs : List St2} (r : Rnd bs) {s : Int × Int} (hs : s ∈ bs.map (·.1)) : 1 ≤ perB bs s ∧ perB bs s ≤ bs.length ∧ itF (nxB bs) (perB bs s) s = s ∧ (∀ j, 0 < j → j < perB bs s → itF (nxB bs) j s ≠ s) ∧ Cyc bs s (cycB bs s) :=
  Classical.epsilon_spec (p := fun c => 1 ≤ c ∧ c ≤ bs.length ∧ itF (nxB bs) c s = s ∧ (∀ j, 0 < j → j < c → itF (nxB bs) j s ≠ s) ∧ Cyc bs s ((List.range c).map fun n => itF (nxB bs) n s)) (r.cyc hs)
theorem cycB_len (bs : List St2) (s : Int × Int) : (cycB bs s).length = perB bs s := by
  unfold cycB
  rw [List.length_map, List.length_range]
theorem Rnd.cyc_in {bs : List St2} (r : Rnd bs) {s : Int × Int} (hs : s ∈ bs.map (·.1)) : ∀ x ∈ cycB bs s, x ∈ bs.map (·.1) := fun x hx => by
  unfold cycB at hx
  obtain ⟨n, _, rfl⟩ := List.mem_map.mp hx
  exact r.it hs n
noncomputable def faceStep (bs : List St2) (st : List (List (Int × Int)) × List (Int × Int)) (s : Int × Int) : List (List (Int × Int)) × List (Int × Int) := if s ∈ st.2 then st else (st.1 ++ [cycB bs s], (cycB bs s).foldl addP st.2)
noncomputable def facesG (bs : List St2) (S : List (Int × Int)) : List (List (Int × Int)) × List (Int × Int) := S.foldl (faceStep bs) ([], [])
theorem facesG_snoc (bs : List St2) (S : List (Int × Int)) (s : Int × Int) : facesG bs (S ++ [s]) = faceStep bs (facesG bs S) s := by
  unfold facesG
  rw [List.foldl_append]
  rfl
theorem stepsB_len {es : List (Int × Int)} {rs : List (List Int)} {b : Nat} (h : ∀ row ∈ rs, row.length ≤ b) : ∀ m, (stepsB es rs m).length ≤ b * m
  | 0 => Nat.zero_le _
  | m + 1 => by
    rw [stepsB_succ, List.length_append, stepR_len]
    have := stepsB_len (es := es) h m
    have l : (rs.getD m []).length ≤ b := by
      rw [List.getD_eq_getElem?_getD]
      cases e : rs[m]? with
      | none => exact Nat.zero_le _
      | some row => exact h row (List.mem_of_getElem? e)
    rw [Nat.mul_succ]
    omega
def FcV (H : Hp) (v : V) (ps : List (Int × Int)) : Prop := ∃ a ws, v = .ref a ∧ H a = some (.tup ws) ∧ Paired (PrV H) ws ps
theorem FcV.tk {H H' : Hp} (k : Tk H H') {v : V} {ps : List (Int × Int)} (h : FcV H v ps) : FcV H' v ps := by
  obtain ⟨a, ws, e, h1, h2⟩ := h
  exact ⟨a, ws, e, k _ _ h1, pr_tk k h2⟩
theorem fc_tk {H H' : Hp} (k : Tk H H') {vs : List V} {fs : List (List (Int × Int))} (h : Paired (FcV H) vs fs) : Paired (FcV H') vs fs := Paired.mono (fun _ _ x => x.tk k) h
theorem tk_dT {H : Hp} {D : Addr} {kvs kvs' : List (List Key × V)} (h : H D = some (.dT kvs)) : Tk H (upd H D (.dT kvs')) := fun b zs e => by
  rw [upd_ne (fun z => by rw [z, h] at e; cases e)]
  exact e
def spFaces : Sp := fun vs H Q _ => ∃ (wv : V) (n : Int) (ts : List Tie) (o : Addr) (us : List V) (rs : List (List Int)) (es : List (Int × Int)), vs = [wv, .ref o] ∧ WebAt H wv n ts ∧ H o = some (.tup us) ∧ Paired (IntsV H) us rs ∧ Ord rs es ∧ TwE ts es ∧ rs.length ≤ 4 * 12 + 2 ∧ es.length ≤ 100 ∧ (stepsB es rs rs.length).length ≤ 1000 ∧
  ∀ r vs' S H', Same H H' → S.Perm ((stepsB es rs rs.length).map (·.1)) → S.Pairwise (fun x y => SrtO.lexB y x = false) → H' r = some (.tup vs') → Paired (FcV H') vs' (facesG (stepsB es rs rs.length) S).1 → Q (.ref r) H'
section
variable {P : Program} {w : World} {K : PySem.W.Frag} {mg : Str → Option Value} {base : Heap}
set_option maxHeartbeats 2000000 in
theorem ok_faces_of {f : Addr} {fd : FuncData} (F : Fun K "faces_of" "faces_of" s_faces_of f fd) (M : Free mg) (m_sorted : mg "sorted" = none) (D_steps_behind : Df P w K mg base 1 "steps_behind" ["web", "orders"] spSteps) (D_face_from : Df P w K mg base 1 "face_from" ["first", "behind"] spFace) : FnOk P w K mg base CX0 2 f fd ["web", "orders"] spFaces := by
  obtain ⟨f_steps_behind, fd_steps_behind, G_steps_behind, g_steps_behind, k_steps_behind, b_steps_behind⟩ := D_steps_behind
  obtain ⟨f_face_from, fd_face_from, G_face_from, g_face_from, k_face_from, b_face_from⟩ := D_face_from
  refine F.ok sc_faces_of (fun vs H Q E h => ?_) (fun cdv A outer s H vs Q E hr h => ?_)
  · obtain ⟨wv, n, ts, o, us, rs, es, rfl, _⟩ := h
    rfl
  · obtain ⟨wv, n, ts, o, us, rs, es, rfl, hW, ho, hp, od, tw, lr, le, lS, q⟩ := h
    have hu := room1 hr
    refine ⟨_, (pss_cons (ps_set (i := 2) sc_faces_of.nd rfl (.inl rfl) (pe_call G_steps_behind (hr.mono (by decide)) (by rfl) g_steps_behind k_steps_behind b_steps_behind .nil pass0 (pa_cons (pv 0) (pa_cons (pv 1) pa_nil))))
      (pss_cons (ps_set (i := 3) sc_faces_of.nd rfl (.inl rfl) (pe_lst pa_nil))
      (pss_cons (ps_set (i := 4) sc_faces_of.nd rfl (.inl rfl) pe_dnewT)
      (pss_cons (ps_for PassesOwn.never rfl (pi_list (pe_callB (call_sortedDP rfl) (by rfl) m_sorted (by decide +kernel) (pa_cons (pv 2) pa_nil))) (pg_name (i := 5) sc_faces_of.nd rfl (.inl rfl))
        (pss_one (ps_if (pt_cmp (pc_dnotin hu (pv 5) (pv 4)))
          (pss_cons (ps_set (i := 6) sc_faces_of.nd rfl (.inl rfl) (pe_call G_face_from (hr.mono (by decide)) (by rfl) g_face_from k_face_from b_face_from .nil pass0 (pa_cons (pv 5) (pa_cons (pv 2) pa_nil))))
          (pss_cons (ps_expr (pe_bm PySem.F.plainAttrs_list PySem.F.slot_list_append PySem.F.type_list_append mt_append (pv 3) (pa_cons (pv 6) pa_nil)))
          (pss_one (ps_for PassesOwn.never rfl (pi_tup (pv 6)) (pg_name (i := 7) sc_faces_of.nd rfl (.inl rfl))
            (pss_one (ps_dput hu (pv 4) (pv 7) pe_bl rfl))))))
          pss_nil)))
      (pss_one (ps_ret (pe_callTy call_tuple_of (by rfl) M.tuple (by decide +kernel) (pa_cons (pv 3) pa_nil)))))))), ?_⟩
    refine ⟨wv, rfl, .ref o, rfl, wv, n, ts, o, us, rs, es, rfl, hW, ho, hp, od, tw, by omega, by omega, fun D kvs H1 s1 hD hb => ?_⟩
    have rnd := stepsB_rnd od
    generalize ebs : stepsB es rs rs.length = bs at hb rnd lS
    refine ⟨Nat.zero_le _, fun F0 nF => ?_⟩
    have sF := same_new (o := .lst []) nF
    have hF2 : (upd H1 F0 (.lst [])) F0 = some (.lst []) := upd_same
    have hD2 := sF _ _ hD
    have hb2 := bh_tk (Same.tk sF) hb
    have s2 := s1.trans sF
    have nF0 := s1.free nF
    generalize upd H1 F0 (.lst []) = H2 at hF2 hD2 hb2 s2
    refine fun P0 nP => ?_
    have sP := same_new (o := .dT []) nP
    have hP3 : (upd H2 P0 (.dT [])) P0 = some (.dT (kvP [])) := upd_same
    have hD3 := sP _ _ hD2
    have hF3 := sP _ _ hF2
    have hb3 := bh_tk (Same.tk sP) hb2
    have s3 := s2.trans sP
    have nP0 := s2.free nP
    have FP : F0 ≠ P0 := ne_of_none hF2 nP
    have DP : D ≠ P0 := ne_of_none hD2 nP
    generalize upd H2 P0 (.dT []) = H3 at hP3 hD3 hF3 hb3 s3
    refine ⟨.ref D, rfl, D, kvs, bs, rfl, hD3, hb3, fun ys zs S0 hys hpm hso nS => ⟨S0, rfl, ⟨_, SqL.of upd_same⟩, ?_⟩⟩
    have sS := same_new (o := .lst ys) nS
    have hS4 := upd_same (H := H3) (a := S0) (o := .lst ys)
    have hD4 := sS _ _ hD3
    have hF4 := sS _ _ hF3
    have hP4 := sS _ _ hP3
    have hb4 := bh_tk (Same.tk sS) hb3
    have hy4 := pr_tk (Same.tk sS) hys
    have s4 := s3.trans sS
    have FS : F0 ≠ S0 := ne_of_none hF3 nS
    have PS : P0 ≠ S0 := ne_of_none hP3 nS
    have DF : D ≠ F0 := ne_of_none hD nF
    generalize upd H3 S0 (.lst ys) = H4 at hS4 hD4 hF4 hP4 hb4 hy4 s4
    have lz : zs.length = bs.length := by rw [hpm.length_eq, List.length_map]
    have ly : ys.length = zs.length := Paired.length hys
    clear hys hD3 hF3 hP3 hb3 hD2 hF2 hb2 hD hb
    refine for_list (xs := ys) (fun i σ' H' => ∃ (y5 y6 y7 : Option V) (vs' : List V), σ' = [some wv, some (.ref o), some (.ref D), some (.ref F0), some (.ref P0), y5, y6, y7] ∧ H' D = some (.dT kvs) ∧ Paired (BhV H') kvs bs ∧ H' F0 = some (.lst vs') ∧ Paired (FcV H') vs' (facesG bs (zs.take i)).1 ∧ H' P0 = some (.dT (kvP (facesG bs (zs.take i)).2)) ∧ (facesG bs (zs.take i)).2.Nodup ∧ (∀ q ∈ (facesG bs (zs.take i)).2, q ∈ bs.map (fun b : St2 => b.1)) ∧ vs'.length ≤ i ∧ H' S0 = some (.lst ys) ∧ Paired (PrV H') ys zs ∧ Same H H') ⟨none, none, none, [], rfl, hD4, hb4, hF4, .nil, hP4, List.nodup_nil, fun q hq => (by cases hq), Nat.zero_le _, hS4, hy4, s4⟩ (fun i σ' H' _ h => by
      obtain ⟨_, _, _, _, _, _, _, _, _, _, _, _, _, h, _⟩ := h
      exact SqL.of h) ?_ ?_
    · clear hD4 hb4 hF4 hP4 hS4 hy4 s4
      rintro i x σ' H5 ex ⟨y5, y6, y7, vs', rfl, hD5, hb5, hF5, hv5, hP5, nd5, in5, lv5, hS5, hy5, s5⟩
      have il := (List.getElem?_eq_some_iff.mp ex).1
      obtain ⟨st, est, c, rfl, hc⟩ := Paired.at hy5 ex
      have hst : st ∈ bs.map (·.1) := hpm.mem_iff.mp (List.mem_of_getElem? est)
      have eT : facesG bs (zs.take (i + 1)) = faceStep bs (facesG bs (zs.take i)) st := by
        rw [List.take_add_one, est]
        exact facesG_snoc bs _ st
      generalize facesG bs (zs.take i) = G at eT hv5 hP5 nd5 in5
      refine ⟨.ref c, rfl, .ref P0, rfl, P0, _, rfl, DGet.t (k := [Sum.inl st.1, Sum.inl st.2]) hP5 hc, _, rfl, ?_⟩
      rw [kvP_val]
      by_cases h : st ∈ G.2
      · rw [if_pos h]
        have eG : facesG bs (zs.take (i + 1)) = G := by rw [eT]; unfold faceStep; rw [if_pos h]
        exact ⟨_, _, _, vs', rfl, hD5, hb5, hF5, by rw [eG]; exact hv5, by rw [eG]; exact hP5, by rw [eG]; exact nd5, by rw [eG]; exact in5, by omega, hS5, hy5, s5⟩
      · rw [if_neg h]
        have eG : facesG bs (zs.take (i + 1)) = (G.1 ++ [cycB bs st], (cycB bs st).foldl addP G.2) := by rw [eT]; unfold faceStep; rw [if_neg h]
        have per := rnd.per hst
        refine ⟨.ref c, rfl, .ref D, rfl, c, D, kvs, bs, st, cycB bs st, rfl, hc, hD5, hb5, rnd.nk, per.2.2.2.2, by rw [cycB_len]; omega, fun r ws H6 s6 hr hws => ?_⟩
        have hF6 := s6 _ _ hF5
        refine ⟨.ref F0, rfl, .inl ⟨rfl, _, SqL.of hF6⟩, .ref r, rfl, F0, vs', _, rfl, rfl, hF6, Nat.lt_of_succ_le (Evl.sz_of (by omega)), ?_⟩
        have tk := tk_lst (ys := vs' ++ [.ref r]) hF6
        have tk6 := (Same.tk s6).trans tk
        have hD7 : (upd H6 F0 (.lst (vs' ++ [.ref r]))) D = some (.dT kvs) := by rw [upd_ne DF]; exact s6 _ _ hD5
        have hP7 : (upd H6 F0 (.lst (vs' ++ [.ref r]))) P0 = some (.dT (kvP G.2)) := by rw [upd_ne FP.symm]; exact s6 _ _ hP5
        have hS7 : (upd H6 F0 (.lst (vs' ++ [.ref r]))) S0 = some (.lst ys) := by rw [upd_ne FS.symm]; exact s6 _ _ hS5
        have hF7 : (upd H6 F0 (.lst (vs' ++ [.ref r]))) F0 = some (.lst (vs' ++ [.ref r])) := upd_same
        have hr7 := tk _ _ hr
        have hws7 := pr_tk tk hws
        have hb7 := bh_tk tk6 hb5
        have hv7 : Paired (FcV (upd H6 F0 (.lst (vs' ++ [.ref r])))) (vs' ++ [.ref r]) (G.1 ++ [cycB bs st]) := Paired.snoc (fc_tk tk6 hv5) ⟨r, ws, rfl, hr7, hws7⟩
        have hy7 := pr_tk tk6 hy5
        have s7 : Same H (upd H6 F0 (.lst (vs' ++ [.ref r]))) := Same.mut (s5.trans s6) nF0
        generalize upd H6 F0 (.lst (vs' ++ [.ref r])) = H7 at hD7 hP7 hS7 hF7 hr7 hws7 hb7 hv7 hy7 s7
        have lws : ws.length = (cycB bs st).length := Paired.length hws7
        refine ⟨.ref r, rfl, r, rfl, ⟨_, SqT.of hr7⟩, ?_⟩
        refine for_tup (xs := ws) (fun j σ' H' => ∃ y7 : Option V, σ' = [some wv, some (.ref o), some (.ref D), some (.ref F0), some (.ref P0), some (.ref c), some (.ref r), y7] ∧ H' D = some (.dT kvs) ∧ Paired (BhV H') kvs bs ∧ H' F0 = some (.lst (vs' ++ [.ref r])) ∧ Paired (FcV H') (vs' ++ [.ref r]) (G.1 ++ [cycB bs st]) ∧ H' P0 = some (.dT (kvP (((cycB bs st).take j).foldl addP G.2))) ∧ (((cycB bs st).take j).foldl addP G.2).Nodup ∧ (∀ q ∈ ((cycB bs st).take j).foldl addP G.2, q ∈ bs.map (fun b : St2 => b.1)) ∧ H' S0 = some (.lst ys) ∧ Paired (PrV H') ys zs ∧ H' r = some (.tup ws) ∧ Paired (PrV H') ws (cycB bs st) ∧ Same H H') ⟨_, rfl, hD7, hb7, hF7, hv7, hP7, nd5, in5, hS7, hy7, hr7, hws7, s7⟩ (fun i σ' H' _ h => by
          obtain ⟨_, _, _, _, _, _, _, _, _, _, _, h, _⟩ := h
          exact SqT.of h) ?_ ?_
        · clear hD7 hb7 hF7 hv7 hP7 hS7 hy7 hr7 hws7 s7
          rintro j x σ' H8 ex8 ⟨y7, rfl, hD8, hb8, hF8, hv8, hP8, nd8, in8, hS8, hy8, hr8, hws8, s8⟩
          obtain ⟨q0, eq0, t, rfl, ht⟩ := Paired.at hws8 ex8
          have eJ : ((cycB bs st).take (j + 1)).foldl addP G.2 = addP (((cycB bs st).take j).foldl addP G.2) q0 := by
            rw [List.take_add_one, eq0, List.foldl_append]
            rfl
          generalize ((cycB bs st).take j).foldl addP G.2 = P8 at eJ hP8 nd8 in8
          have lP : P8.length ≤ 1000 := by
            have := sub_lenG nd8 in8
            rw [List.length_map] at this
            omega
          have hlt : (kvP P8).length < sizeLine := by
            unfold kvP
            rw [List.length_map]
            exact Nat.lt_of_succ_le (Evl.sz_of (by omega))
          refine ⟨.ref P0, rfl, .ref t, rfl, P0, _, rfl, DPut.t (k := [Sum.inl q0.1, Sum.inl q0.2]) hP8 ht hlt, ?_⟩
          rw [kvP_put]
          have tkP := tk_dT (kvs' := kvP (addP P8 q0)) hP8
          refine ⟨_, rfl, by rw [upd_ne DP]; exact hD8, bh_tk tkP hb8, by rw [upd_ne FP]; exact hF8, fc_tk tkP hv8, by rw [eJ]; exact upd_same, by rw [eJ]; exact addP_nd nd8, fun x hx => ?_, by rw [upd_ne PS.symm]; exact hS8, pr_tk tkP hy8, tkP _ _ hr8, pr_tk tkP hws8, Same.mut s8 nP0⟩
          rw [eJ, addP_mem] at hx
          rcases hx with z | z
          · exact in8 x z
          · rw [z]
            exact rnd.cyc_in hst q0 (List.mem_of_getElem? eq0)
        · rintro σ' H8 ⟨y7, rfl, hD8, hb8, hF8, hv8, hP8, nd8, in8, hS8, hy8, hr8, hws8, s8⟩
          rw [lws, List.take_length] at hP8 nd8 in8
          exact ⟨_, _, _, vs' ++ [.ref r], rfl, hD8, hb8, hF8, by rw [eG]; exact hv8, by rw [eG]; exact hP8, by rw [eG]; exact nd8, by rw [eG]; exact in8, by rw [List.length_append]; show _ + 1 ≤ _; omega, hS8, hy8, s8⟩
    · rintro σ' H5 ⟨y5, y6, y7, vs', rfl, hD5, hb5, hF5, hv5, hP5, nd5, in5, lv5, hS5, hy5, s5⟩
      rw [ly, List.take_length] at hv5
      refine ⟨.ref F0, rfl, F0, _, rfl, .inl ⟨SqL.of hF5, fun r nr => ?_⟩⟩
      have sr := same_new (o := .tup vs') nr
      rw [← ebs] at hpm hv5
      exact q r vs' zs _ (s5.trans sr) hpm hso upd_same (fc_tk (Same.tk sr) hv5)
end
/-! ### flats: a face as the law walks it (mathematics) -/
def dueW (bs : List St2) : Nat → List (Int × Int) × List (Int × Int) × (Int × Int) → List (Int × Int) × List (Int × Int) × (Int × Int)
  | 0, st => st
  | n + 1, (K, f, x) => if x ∈ K then dueW bs n (K, f, x) else dueW bs n (addP K x, f ++ [x], nxB bs x)
theorem dueW_stay {bs : List St2} {K f : List (Int × Int)} {x : Int × Int} (h : x ∈ K) : ∀ n, dueW bs n (K, f, x) = (K, f, x)
  | 0 => rfl
  | n + 1 => by
    show (if x ∈ K then dueW bs n (K, f, x) else _) = _
    rw [if_pos h]
    exact dueW_stay h n
theorem fold_mem {x : Int × Int} : ∀ {ps K : List (Int × Int)}, x ∈ ps.foldl addP K ↔ x ∈ K ∨ x ∈ ps
  | [], K => by simp
  | p :: ps, K => by
    rw [List.foldl_cons, fold_mem, addP_mem, List.mem_cons, or_assoc]
/-- whole ways round only: with a step, the one behind it and the one before it -/
def Whole (bs : List St2) (K : List (Int × Int)) : Prop := ∀ x ∈ bs.map (·.1), (x ∈ K ↔ nxB bs x ∈ K)
theorem Whole.it {bs : List St2} {K : List (Int × Int)} (w : Whole bs K) (r : Rnd bs) {s : Int × Int} (hs : s ∈ bs.map (·.1)) : ∀ n, (s ∈ K ↔ itF (nxB bs) n s ∈ K)
  | 0 => Iff.rfl
  | n + 1 => (w.it r hs n).trans (w _ (r.it hs n))
theorem cyc_at {bs : List St2} {s : Int × Int} {j : Nat} (h : j < perB bs s) : (cycB bs s)[j]? = some (itF (nxB bs) j s) := by
  unfold cycB
  rw [List.getElem?_map, List.getElem?_range h]
  rfl
theorem Rnd.walk {bs : List St2} (r : Rnd bs) {s : Int × Int} (hs : s ∈ bs.map (·.1)) {K : List (Int × Int)} (w : Whole bs K) (no : s ∉ K) : ∀ j, j ≤ perB bs s → ∀ n, dueW bs (j + n) (K, [], s) = dueW bs n (((cycB bs s).take j).foldl addP K, (cycB bs s).take j, itF (nxB bs) j s)
  | 0, _, n => by
    rw [Nat.zero_add]
    rfl
  | j + 1, h, n => by
    rw [show j + 1 + n = j + (n + 1) by omega, r.walk hs w no j (by omega) (n + 1)]
    have per := r.per hs
    have out : itF (nxB bs) j s ∉ ((cycB bs s).take j).foldl addP K := fun z => by
      rcases fold_mem.mp z with z | z
      · exact no ((w.it r hs j).mpr z)
      · obtain ⟨i, hi⟩ := List.getElem?_of_mem z
        have il := (List.getElem?_eq_some_iff.mp hi).1
        rw [List.length_take] at il
        rw [List.getElem?_take_of_lt (by omega), cyc_at (by omega)] at hi
        have e := Option.some.inj hi
        refine per.2.2.2.1 (j - i) (by omega) (by omega) (r.back hs (j - i) i ?_)
        rw [show j - i + i = j by omega]
        exact e.symm
    show (if _ then _ else _) = _
    rw [if_neg out, List.take_add_one, cyc_at (by omega), List.foldl_append]
    rfl
theorem Rnd.due {bs : List St2} (r : Rnd bs) {s : Int × Int} (hs : s ∈ bs.map (·.1)) {K : List (Int × Int)} (w : Whole bs K) (no : s ∉ K) {N : Nat} (hN : bs.length ≤ N) : dueW bs N (K, [], s) = ((cycB bs s).foldl addP K, cycB bs s, s) := by
  have per := r.per hs
  have e := r.walk hs w no (perB bs s) (Nat.le_refl _) (N - perB bs s)
  rw [show perB bs s + (N - perB bs s) = N by omega, ← cycB_len, List.take_length, cycB_len, per.2.2.1] at e
  rw [e]
  refine dueW_stay (fold_mem.mpr (.inr ?_)) _
  have := cyc_at (bs := bs) (s := s) (j := 0) (by omega)
  exact List.mem_of_getElem? this
theorem Rnd.whole {bs : List St2} (r : Rnd bs) {s : Int × Int} (hs : s ∈ bs.map (·.1)) {K : List (Int × Int)} (w : Whole bs K) : Whole bs ((cycB bs s).foldl addP K) := fun x hx => by
  have per := r.per hs
  rw [fold_mem, fold_mem, w x hx]
  have cyc : x ∈ cycB bs s ↔ nxB bs x ∈ cycB bs s := by
    constructor
    · intro h
      obtain ⟨i, hi⟩ := List.getElem?_of_mem h
      have il := (List.getElem?_eq_some_iff.mp hi).1
      rw [cycB_len] at il
      rw [cyc_at il] at hi
      obtain rfl := Option.some.inj hi
      by_cases e : i + 1 < perB bs s
      · exact List.mem_of_getElem? (cyc_at e)
      · have : nxB bs (itF (nxB bs) i s) = s := by
          show itF (nxB bs) (i + 1) s = s
          rw [show i + 1 = perB bs s by omega, per.2.2.1]
        rw [this]
        exact List.mem_of_getElem? (cyc_at (bs := bs) (s := s) (j := 0) (by omega))
    · intro h
      obtain ⟨i, hi⟩ := List.getElem?_of_mem h
      have il := (List.getElem?_eq_some_iff.mp hi).1
      rw [cycB_len] at il
      rw [cyc_at il] at hi
      have e := Option.some.inj hi
      cases i with
      | zero =>
        have e2 : nxB bs (itF (nxB bs) (perB bs s - 1) s) = s := by
          show itF (nxB bs) (perB bs s - 1 + 1) s = s
          rw [show perB bs s - 1 + 1 = perB bs s by omega, per.2.2.1]
        have : x = itF (nxB bs) (perB bs s - 1) s := r.inj hx (r.it hs _) (e.symm.trans e2.symm)
        rw [this]
        exact List.mem_of_getElem? (cyc_at (by omega))
      | succ i =>
        have : x = itF (nxB bs) i s := r.inj hx (r.it hs _) e.symm
        rw [this]
        exact List.mem_of_getElem? (cyc_at (by omega))
  rw [cyc]
theorem sorted_one {S T : List (Int × Int)} (p : S.Perm T) (hS : S.Pairwise (fun x y => SrtO.lexB y x = false)) (hT : T.Pairwise (fun x y => SrtO.lexB y x = false)) : S = T := by
  refine List.Perm.eq_of_pairwise (fun a b _ _ h1 h2 => ?_) hS hT p
  have h1 := SrtO.lexB_no.mp h1
  have h2 := SrtO.lexB_no.mp h2
  exact Prod.ext (by omega) (by omega)
def endsL (es : List (Int × Int)) (m : Nat) : List (Int × Int) := (List.range m).flatMap fun k : Nat => [((k : Int), (es.getD k (0, 0)).1), ((k : Int), (es.getD k (0, 0)).2)]
theorem endsL_succ (es : List (Int × Int)) (m : Nat) : endsL es (m + 1) = endsL es m ++ [((m : Int), (es.getD m (0, 0)).1), ((m : Int), (es.getD m (0, 0)).2)] := by
  unfold endsL
  rw [List.range_succ, List.flatMap_append]
  simp
theorem endsL_len (es : List (Int × Int)) : ∀ m, (endsL es m).length = 2 * m
  | 0 => rfl
  | m + 1 => by
    rw [endsL_succ, List.length_append, endsL_len es m]
    rfl
theorem endsL_mem {es : List (Int × Int)} {x : Int × Int} : x ∈ endsL es es.length ↔ ∃ (k : Nat) (e : Int × Int), es[k]? = some e ∧ x.1 = (k : Int) ∧ (x.2 = e.1 ∨ x.2 = e.2) := by
  unfold endsL
  rw [List.mem_flatMap]
  constructor
  · rintro ⟨k, hk, h⟩
    have hk := List.mem_range.mp hk
    have ek := List.getElem?_eq_getElem hk
    have eg : es.getD k (0, 0) = es[k] := by rw [List.getD_eq_getElem?_getD, ek]; rfl
    rw [eg] at h
    refine ⟨k, _, ek, ?_⟩
    rcases List.mem_cons.mp h with h | h
    · rw [h]; exact ⟨rfl, .inl rfl⟩
    · rw [List.mem_singleton.mp h]; exact ⟨rfl, .inr rfl⟩
  · rintro ⟨k, e, ek, h1, h2⟩
    have eg : es.getD k (0, 0) = e := by rw [List.getD_eq_getElem?_getD, ek]; rfl
    refine ⟨k, List.mem_range.mpr (List.getElem?_eq_some_iff.mp ek).1, ?_⟩
    rw [eg]
    rcases h2 with h2 | h2
    · exact List.mem_cons.mpr (.inl (Prod.ext h1 h2))
    · exact List.mem_cons.mpr (.inr (List.mem_singleton.mpr (Prod.ext h1 h2)))
theorem stepsB_few {rs : List (List Int)} {es : List (Int × Int)} (od : Ord rs es) : (stepsB es rs rs.length).length ≤ 2 * es.length := by
  have := sub_lenG (stepsB_nk od _ (Nat.le_refl _)) (ys := endsL es es.length) fun x hx => endsL_mem.mpr ((stepsB_key od).mp hx)
  rw [List.length_map, endsL_len] at this
  exact this
/-! ### flats: _law_due -/
theorem endsL_lt {es : List (Int × Int)} {m : Nat} {x : Int × Int} (h : x ∈ endsL es m) : x.1 < (m : Int) := by
  unfold endsL at h
  obtain ⟨k, hk, h⟩ := List.mem_flatMap.mp h
  have hk := List.mem_range.mp hk
  rcases List.mem_cons.mp h with h | h
  · rw [h]; show (k : Int) < m; omega
  · rw [List.mem_singleton.mp h]; show (k : Int) < m; omega
theorem endsL_nd {rs : List (List Int)} {es : List (Int × Int)} (od : Ord rs es) : ∀ m, m ≤ es.length → (endsL es m).Nodup
  | 0, _ => List.nodup_nil
  | m + 1, h => by
    rw [endsL_succ]
    have ek := List.getElem?_eq_getElem (show m < es.length by omega)
    have eg : es.getD m (0, 0) = es[m] := by rw [List.getD_eq_getElem?_getD, ek]; rfl
    have ne := (od.ends _ (List.mem_of_getElem? ek)).2.2
    rw [eg]
    refine List.nodup_append.mpr ⟨endsL_nd od m (by omega), ?_, fun a ha b hb e => ?_⟩
    · refine List.nodup_cons.mpr ⟨fun z => ne (congrArg Prod.snd (List.mem_singleton.mp z)), by simp⟩
    · have := endsL_lt ha
      rcases List.mem_cons.mp hb with z | z
      · rw [e, z] at this; have : (m : Int) < m := this; omega
      · rw [e, List.mem_singleton.mp z] at this; have : (m : Int) < m := this; omega
def dueStep (bs : List St2) (st : List (Int × Int) × List (Int × Int) × (Int × Int)) : List (Int × Int) × List (Int × Int) × (Int × Int) := if st.2.2 ∈ st.1 then st else (addP st.1 st.2.2, st.2.1 ++ [st.2.2], nxB bs st.2.2)
theorem dueW_succ (bs : List St2) : ∀ (n : Nat) (st : List (Int × Int) × List (Int × Int) × (Int × Int)), dueW bs (n + 1) st = dueStep bs (dueW bs n st)
  | 0, (K, f, x) => rfl
  | n + 1, (K, f, x) => by
    show (if x ∈ K then dueW bs (n + 1) (K, f, x) else dueW bs (n + 1) (addP K x, f ++ [x], nxB bs x)) = dueStep bs (if x ∈ K then dueW bs n (K, f, x) else dueW bs n (addP K x, f ++ [x], nxB bs x))
    by_cases h : x ∈ K
    · rw [if_pos h, if_pos h]; exact dueW_succ bs n _
    · rw [if_neg h, if_neg h]; exact dueW_succ bs n _
theorem step_of {rs : List (List Int)} {es : List (Int × Int)} (od : Ord rs es) {x : Int × Int} (hx : x ∈ (stepsB es rs rs.length).map (·.1)) : ∃ (k p : Nat) (row : List Int) (i : Nat), k < es.length ∧ rs[p]? = some row ∧ row[i]? = some (k : Int) ∧ x = ((k : Int), othE es k p) ∧ nxB (stepsB es rs rs.length) x = (row.getD ((i + 1) % row.length) 0, (p : Int)) := by
  have r := stepsB_rnd od
  obtain ⟨b, hb, rfl⟩ := List.mem_map.mp hx
  obtain ⟨p, hp, z⟩ := stepsB_mem.mp hb
  have er := List.getElem?_eq_getElem hp
  have eg : rs.getD p [] = rs[p] := by rw [List.getD_eq_getElem?_getD, er]; rfl
  rw [eg] at z
  obtain ⟨i, hi, eb⟩ := stepR_memI.mp z
  have ei := List.getElem?_eq_getElem hi
  have gi : rs[p].getD i 0 = rs[p][i] := by rw [List.getD_eq_getElem?_getD, ei]; rfl
  obtain ⟨k, e, ek, ee, _⟩ := (od.mem p _ er rs[p][i]).mp (List.getElem_mem _)
  have hn : (b.1, nxB (stepsB es rs rs.length) b.1) = b := nd_inj r.nk (nxB_mem hx) hb rfl
  have hn2 : nxB (stepsB es rs rs.length) b.1 = b.2 := congrArg Prod.snd hn
  refine ⟨k, p, rs[p], i, (List.getElem?_eq_some_iff.mp ee).1, er, by rw [ei, ek], ?_, by rw [hn2, eb]⟩
  rw [eb, gi, ek]
theorem Paired.app2F {α β : Type} {R : α → β → Prop} : ∀ {xs : List α} {ys : List β} {xs' : List α} {ys' : List β}, Paired R xs ys → Paired R xs' ys' → Paired R (xs ++ xs') (ys ++ ys')
  | _, _, _, _, .nil, h => h
  | _, _, _, _, .cons a b, h => .cons a (Paired.app2F b h)
def spDueF : Sp := fun vs H Q _ => ∃ (wv : V) (n : Int) (ts : List Tie) (o : Addr) (us : List V) (rs : List (List Int)) (es : List (Int × Int)), vs = [wv, .ref o] ∧ WebAt H wv n ts ∧ H o = some (.tup us) ∧ Paired (IntsV H) us rs ∧ Ord rs es ∧ TwE ts es ∧ rs.length ≤ 50 ∧ es.length ≤ 100 ∧
  ∀ r vs' S H', Same H H' → S.Perm ((stepsB es rs rs.length).map (·.1)) → S.Pairwise (fun x y => SrtO.lexB y x = false) → H' r = some (.tup vs') → Paired (FcV H') vs' (facesG (stepsB es rs rs.length) S).1 → Q (.ref r) H'
section
variable {P : Program} {w : World} {K : PySem.W.Frag} {mg : Str → Option Value} {base : Heap}
set_option maxHeartbeats 2000000 in
theorem ok_l_due {f : Addr} {fd : FuncData} (F : Fun K "_law_due" "_law_due" s_l_due f fd) (M : Free mg) (m_enumerate : mg "enumerate" = none) (m_sorted : mg "sorted" = none) (D_l_behind : Df P w K mg base 1 "_law_behind" ["_law_web_here", "_law_orders", "_law_step"] spBehindL) : FnOk P w K mg base CX0 2 f fd ["_law_web_here", "_law_orders"] spDueF := by
  obtain ⟨f_l_behind, fd_l_behind, G_l_behind, g_l_behind, k_l_behind, b_l_behind⟩ := D_l_behind
  refine F.ok sc_l_due (fun vs H Q E h => ?_) (fun cdv A outer s H vs Q E hr h => ?_)
  · obtain ⟨wv, n, ts, o, us, rs, es, rfl, _⟩ := h
    rfl
  · obtain ⟨wv, n, ts, o, us, rs, es, rfl, hW, ho, hp, od, tw, lr, le, q⟩ := h
    have hu := room1 hr
    refine ⟨_, (pss_cons (ps_set (i := 2) sc_l_due.nd rfl (.inl rfl) (pe_lst pa_nil))
      (Evl.pss_cut (ps_for PassesOwn.never rfl (pi_enumT (by rfl) m_enumerate (pa_cons (pe_ix ix_tup (pv 0) pe_int (fun _ _ => rfl)) pa_nil)) (pg_tup rfl (pgs_cons (pg_name (i := 3) sc_l_due.nd rfl (.inl rfl)) (pgs_cons (pg_name (i := 4) sc_l_due.nd rfl (.inl rfl)) pgs_nil)))
        (pss_one (ps_set (i := 2) sc_l_due.nd rfl (.inl rfl) (pe_op op_cat (pv 2) (pe_callB cr_sortedPO (by rfl) m_sorted (by decide +kernel) (pa_cons (pe_lst (pa_cons (pe_tup (pa_cons (pv 3) (pa_cons (pe_ix ix_tup (pv 4) pe_int (fun _ _ => rfl)) pa_nil))) (pa_cons (pe_tup (pa_cons (pv 3) (pa_cons (pe_ix ix_tup (pv 4) pe_int (fun _ _ => rfl)) pa_nil))) pa_nil))) pa_nil))))))
      (pss_cons (ps_set (i := 5) sc_l_due.nd rfl (.inl rfl) pe_dnewT)
      (pss_cons (ps_set (i := 6) sc_l_due.nd rfl (.inl rfl) (pe_lst pa_nil))
      (pss_cons (ps_for PassesOwn.never rfl (pi_list (pv 2)) (pg_name (i := 7) sc_l_due.nd rfl (.inl rfl))
        (pss_one (ps_if (pt_cmp (pc_dnotin hu (pv 7) (pv 5)))
          (pss_cons (ps_set (i := 8) sc_l_due.nd rfl (.inl rfl) (pe_lst pa_nil))
          (pss_cons (ps_set (i := 9) sc_l_due.nd rfl (.inl rfl) (pv 7))
          (pss_cons (ps_for PassesOwn.never rfl (pi_range1 (by rfl) M.range (pa_cons (pe_callB call_len_seq (by rfl) M.len PySem.boot_len (pa_cons (pv 2) pa_nil)) pa_nil)) (pg_name (i := 10) sc_l_due.nd rfl (.inl rfl))
            (pss_one (ps_if (pt_cmp (pc_dnotin hu (pv 9) (pv 5)))
              (pss_cons (ps_dput hu (pv 5) (pv 9) pe_bl rfl)
              (pss_cons (ps_expr (pe_bm PySem.F.plainAttrs_list PySem.F.slot_list_append PySem.F.type_list_append mt_append (pv 8) (pa_cons (pv 9) pa_nil)))
              (pss_one (ps_set (i := 9) sc_l_due.nd rfl (.inl rfl) (pe_call G_l_behind (hr.mono (by decide)) (by rfl) g_l_behind k_l_behind b_l_behind .nil pass0 (pa_cons (pv 0) (pa_cons (pv 1) (pa_cons (pv 9) pa_nil))))))))
              pss_nil)))
          (pss_one (ps_expr (pe_bm PySem.F.plainAttrs_list PySem.F.slot_list_append PySem.F.type_list_append mt_append (pv 6) (pa_cons (pe_callTy call_tuple_of (by rfl) M.tuple (by decide +kernel) (pa_cons (pv 8) pa_nil)) pa_nil)))))))
          pss_nil)))
      (pss_one (ps_ret (pe_callTy call_tuple_of (by rfl) M.tuple (by decide +kernel) (pa_cons (pv 6) pa_nil))))))))), ?_⟩
    obtain ⟨wa, wb, ws0, rfl, hwa, hwb, hpw⟩ := id hW
    have lw : ws0.length = ts.length := Paired.length hpw
    have lt : ts.length = es.length := tw.1
    refine ⟨Nat.zero_le _, fun Z0 nZ0 => ?_⟩
    have s1 := same_new (o := .lst []) nZ0
    have hZ1 : (upd H Z0 (.lst [])) Z0 = some (.lst []) := upd_same
    generalize upd H Z0 (.lst []) = H1 at s1 hZ1
    refine ⟨fun σ' H' => ∃ (y3 y4 : Option V) (Z : Addr) (ws : List V) (S : List (Int × Int)), σ' = [some (.ref wa), some (.ref o), some (.ref Z), y3, y4, none, none, none, none, none, none] ∧ H' Z = some (.lst ws) ∧ Paired (PrV H') ws S ∧ S.Perm (endsL es es.length) ∧ S.Pairwise (fun x y => SrtO.lexB y x = false) ∧ Same H H', ?_, ?_⟩
    · refine ⟨.ref wa, rfl, wa, _, 1, .ref wb, rfl, rfl, SqT.of (s1 _ _ hwa), rfl, wb, ws0, rfl, SqT.of (s1 _ _ hwb), ?_⟩
      refine for_it (walk_enumT (xs := ws0)) (fun i σ' H' => ∃ (y3 y4 : Option V) (Z : Addr) (ws : List V) (S : List (Int × Int)), σ' = [some (.ref wa), some (.ref o), some (.ref Z), y3, y4, none, none, none, none, none, none] ∧ H' Z = some (.lst ws) ∧ Paired (PrV H') ws S ∧ S.Perm (endsL es i) ∧ S.Pairwise (fun x y => SrtO.lexB y x = false) ∧ Same H H') ⟨_, _, Z0, [], [], rfl, hZ1, .nil, .refl _, List.Pairwise.nil, s1⟩ (fun i σ' H' _ h => by
        obtain ⟨_, _, _, _, _, _, _, _, _, _, s⟩ := h
        exact SqT.of (s _ _ hwb)) ?_ ?_
      · rintro i x σ' H2 H3 hi ⟨y3, y4, Z, ws, S, rfl, hZ, hS, pS, oS, s2⟩ ⟨T, x1, y1, rfl, nT, rfl, gx, gy⟩
        obtain rfl : V.int (i : Nat) = x1 := Option.some.inj gx
        have gy : ws0[i]? = some y1 := gy
        obtain ⟨t, et, c, rfl, hc⟩ := Paired.at hpw gy
        have hi2 := (List.getElem?_eq_some_iff.mp et).1
        obtain ⟨e, ee⟩ : ∃ e, es[i]? = some e := ⟨_, List.getElem?_eq_getElem (by omega)⟩
        have jt := tw.2 i t e et ee
        have lS : S.length = 2 * i := by rw [pS.length_eq, endsL_len]
        have lws : ws.length = S.length := Paired.length hS
        have sT := same_new (o := .tup [.int (i : Nat), .ref c]) nT
        have hT3 := upd_same (H := H2) (a := T) (o := .tup [.int (i : Nat), .ref c])
        have hZ3 := sT _ _ hZ
        have hS3 := pr_tk (Same.tk sT) hS
        have s3 := s2.trans sT
        generalize upd H2 T (.tup [.int (i : Nat), .ref c]) = H3 at hT3 hZ3 hS3 s3
        have hc3 := s3 _ _ hc
        refine ⟨T, _, rfl, SqT.of hT3, rfl, _, _, rfl, _, _, rfl, rfl, ?_⟩
        refine ⟨.ref Z, rfl, .int (i : Nat), rfl, .ref c, rfl, c, _, 0, .int t.one, rfl, rfl, SqT.of hc3, rfl, by show 2 ≤ sizeLine; decide, fun p1 n1 => ?_⟩
        have s4 := same_new (o := .tup [.int (i : Nat), .int t.one]) n1
        refine ⟨.int (i : Nat), rfl, .ref c, rfl, c, _, 1, .int t.other, rfl, rfl, SqT.of (s4 _ _ hc3), rfl, by show 2 ≤ sizeLine; decide, fun p2 n2 => ?_⟩
        have s5 := same_new (o := .tup [.int (i : Nat), .int t.other]) n2
        refine ⟨by show 2 ≤ sizeLine; decide, fun L nL => ?_⟩
        have s6 := same_new (o := .lst [.ref p1, .ref p2]) nL
        have h1 := s6 _ _ (s5 _ _ (upd_same (H := H3) (a := p1) (o := .tup [.int (i : Nat), .int t.one])))
        have h2 := s6 _ _ (upd_same (H := upd H3 p1 (.tup [.int (i : Nat), .int t.one])) (a := p2) (o := .tup [.int (i : Nat), .int t.other]))
        have p12 : p1 ≠ p2 := ne_of_none (upd_same (H := H3) (a := p1) (o := .tup [.int (i : Nat), .int t.one])) n2
        have hL6 := upd_same (H := upd (upd H3 p1 (.tup [.int (i : Nat), .int t.one])) p2 (.tup [.int (i : Nat), .int t.other])) (a := L) (o := .lst [.ref p1, .ref p2])
        have s46 := (s4.trans s5).trans s6
        generalize upd (upd (upd H3 p1 (.tup [.int (i : Nat), .int t.one])) p2 (.tup [.int (i : Nat), .int t.other])) L (.lst [.ref p1, .ref p2]) = H6 at h1 h2 hL6 s46
        have hZ6 := s46 _ _ hZ3
        obtain ⟨kf, k1, k2⟩ : ∃ kf : V → Int × Int, kf (.ref p1) = ((i : Int), t.one) ∧ kf (.ref p2) = ((i : Int), t.other) := ⟨fun x => if x = .ref p1 then ((i : Int), t.one) else ((i : Int), t.other), if_pos rfl, if_neg fun z => p12 (by cases z; rfl)⟩
        have hx : ∀ x ∈ [V.ref p1, .ref p2], ∃ t, x = V.ref t ∧ H6 t = some (.tup [.int (kf x).1, .int (kf x).2]) := fun x hx => by
          rcases List.mem_cons.mp hx with z | z
          · rw [z, k1]; exact ⟨p1, rfl, h1⟩
          · rw [List.mem_singleton.mp z, k2]; exact ⟨p2, rfl, h2⟩
        refine ⟨L, _, kf, rfl, SqL.of hL6, hx, fun ys p hs hb np => ?_⟩
        have s7 := same_new (o := .lst ys) np
        have hyl : ys.length = 2 := by rw [hb.perm.length_eq]; rfl
        refine ⟨Z, p, ws, ys, rfl, rfl, s7 _ _ hZ6, upd_same, Evl.sz_of (by omega), fun Z' nZ' => ?_⟩
        have s8 := same_new (o := .lst (ws ++ ys)) nZ'
        have s38 := (s46.trans s7).trans s8
        have prs : ∀ l : List V, (∀ v ∈ l, v ∈ [V.ref p1, .ref p2]) → Paired (PrV H6) l (l.map kf) := fun l => by
          induction l with
          | nil => intro _; exact .nil
          | cons v l ih =>
            intro hl
            obtain ⟨t, e1, e2⟩ := hx v (hl v List.mem_cons_self)
            exact .cons ⟨t, e1, e2⟩ (ih fun u hu => hl u (List.mem_cons_of_mem _ hu))
        have hy6 := prs ys fun v hv => hb.perm.mem_iff.mp hv
        have pk : (ys.map kf).Perm [((i : Int), e.1), ((i : Int), e.2)] := by
          refine (hb.perm.map kf).trans ?_
          show List.Perm [kf (.ref p1), kf (.ref p2)] _
          rw [k1, k2]
          rcases jt with ⟨a, b⟩ | ⟨a, b⟩
          · rw [a, b]
          · rw [a, b]; exact List.Perm.swap ..
        refine ⟨_, _, Z', ws ++ ys, S ++ ys.map kf, rfl, upd_same, pr_tk (Same.tk s8) (Paired.app2F (pr_tk (Same.tk (s46.trans s7)) hS3) (pr_tk (Same.tk s7) hy6)), ?_, ?_, s3.trans s38⟩
        · rw [endsL_succ]
          refine pS.append ?_
          rw [List.getD_eq_getElem?_getD, ee]
          exact pk
        · refine List.pairwise_append.mpr ⟨oS, by rw [List.pairwise_map]; exact hs, fun a ha b hb' => ?_⟩
          have a1 := endsL_lt (pS.mem_iff.mp ha)
          have b1 := pk.mem_iff.mp hb'
          have b2 : b.1 = (i : Int) := by
            rcases List.mem_cons.mp b1 with z | z
            · rw [z]
            · rw [List.mem_singleton.mp z]
          exact SrtO.lexB_no.mpr (by omega)
      · rintro σ' H2 ⟨y3, y4, Z, ws, S, rfl, hZ, hS, pS, oS, s2⟩
        rw [lw, lt] at pS
        exact ⟨_, _, Z, ws, S, rfl, hZ, hS, pS, oS, s2⟩
    rintro σ' H2 ⟨y3, y4, Z, ws, S, rfl, hZ, hS, pS, oS, s2⟩
    have rnd := stepsB_rnd od
    have few := stepsB_few od
    have pK : S.Perm ((stepsB es rs rs.length).map (·.1)) := pS.trans ((List.perm_ext_iff_of_nodup (endsL_nd od _ (Nat.le_refl _)) rnd.nk).mpr fun x => endsL_mem.trans (stepsB_key od).symm)
    have step := @step_of rs es od
    generalize ebs : stepsB es rs rs.length = bs at rnd few pK step
    have lS : S.length = bs.length := by rw [pK.length_eq, List.length_map]
    have lws : ws.length = S.length := Paired.length hS
    refine fun P0 nP => ⟨Nat.zero_le _, fun F0 nF => ?_⟩
    have sP := same_new (o := .dT []) nP
    have hP3 : (upd H2 P0 (.dT [])) P0 = some (.dT (kvP [])) := upd_same
    have sF := same_new (o := .lst []) nF
    have hF4 := upd_same (H := upd H2 P0 (.dT [])) (a := F0) (o := .lst [])
    have hP4 := sF _ _ hP3
    have FP : F0 ≠ P0 := (ne_of_none hP3 nF).symm
    have ZP : Z ≠ P0 := ne_of_none hZ nP
    have ZF : Z ≠ F0 := ne_of_none (sP _ _ hZ) nF
    have sPF := sP.trans sF
    have nP0 := s2.free nP
    have nF0 := (s2.trans sP).free nF
    generalize upd (upd H2 P0 (.dT [])) F0 (.lst []) = H4 at hF4 hP4 sPF
    have s4 := s2.trans sPF
    refine ⟨.ref Z, rfl, Z, rfl, ⟨_, SqL.of (sPF _ _ hZ)⟩, ?_⟩
    refine for_list (xs := ws) (fun i σ' H' => ∃ (y7 y8 y9 y10 : Option V) (vs' : List V), σ' = [some (.ref wa), some (.ref o), some (.ref Z), y3, y4, some (.ref P0), some (.ref F0), y7, y8, y9, y10] ∧ H' F0 = some (.lst vs') ∧ Paired (FcV H') vs' (facesG bs (S.take i)).1 ∧ H' P0 = some (.dT (kvP (facesG bs (S.take i)).2)) ∧ (facesG bs (S.take i)).2.Nodup ∧ (∀ q ∈ (facesG bs (S.take i)).2, q ∈ bs.map (fun b : St2 => b.1)) ∧ Whole bs (facesG bs (S.take i)).2 ∧ vs'.length ≤ i ∧ H' Z = some (.lst ws) ∧ Paired (PrV H') ws S ∧ Same H H') ⟨_, _, _, _, [], rfl, hF4, .nil, hP4, List.nodup_nil, fun q hq => (by cases hq), fun x _ => ⟨fun h => (by cases h), fun h => (by cases h)⟩, Nat.zero_le _, sPF _ _ hZ, pr_tk (Same.tk sPF) hS, s4⟩ (fun i σ' H' _ h => by
      obtain ⟨_, _, _, _, _, _, _, _, _, _, _, _, _, h, _⟩ := h
      exact SqL.of h) ?_ ?_
    · rintro i x σ' H5 ex ⟨y7, y8, y9, y10, vs', rfl, hF5, hv5, hP5, nd5, in5, wh5, lv5, hZ5, hS5, s5⟩
      have il := (List.getElem?_eq_some_iff.mp ex).1
      obtain ⟨st, est, c, rfl, hc⟩ := Paired.at hS5 ex
      have hst : st ∈ bs.map (fun b : St2 => b.1) := pK.mem_iff.mp (List.mem_of_getElem? est)
      have eT : facesG bs (S.take (i + 1)) = faceStep bs (facesG bs (S.take i)) st := by
        rw [List.take_add_one, est]
        exact facesG_snoc bs _ st
      generalize facesG bs (S.take i) = G at eT hv5 hP5 nd5 in5 wh5
      refine ⟨.ref c, rfl, .ref P0, rfl, P0, _, rfl, DGet.t (k := [Sum.inl st.1, Sum.inl st.2]) hP5 hc, _, rfl, ?_⟩
      rw [kvP_val]
      by_cases h : st ∈ G.2
      · rw [if_pos h]
        have eG : facesG bs (S.take (i + 1)) = G := by rw [eT]; unfold faceStep; rw [if_pos h]
        exact ⟨_, _, _, _, vs', rfl, hF5, by rw [eG]; exact hv5, by rw [eG]; exact hP5, by rw [eG]; exact nd5, by rw [eG]; exact in5, by rw [eG]; exact wh5, by omega, hZ5, hS5, s5⟩
      · rw [if_neg h]
        have eG : facesG bs (S.take (i + 1)) = (G.1 ++ [cycB bs st], (cycB bs st).foldl addP G.2) := by rw [eT]; unfold faceStep; rw [if_neg h]
        have due := rnd.due hst wh5 h (N := ws.length) (by omega)
        refine ⟨Nat.zero_le _, fun A nA => ⟨.ref c, rfl, ?_⟩⟩
        have sA := same_new (o := .lst []) nA
        have hA6 : (upd H5 A (.lst [])) A = some (.lst []) := upd_same
        have hF6 := sA _ _ hF5
        have hP6 := sA _ _ hP5
        have hZ6 := sA _ _ hZ5
        have hc6 := sA _ _ hc
        have hv6 := fc_tk (Same.tk sA) hv5
        have hS6 := pr_tk (Same.tk sA) hS5
        have s6 := s5.trans sA
        have nA0 := s5.free nA
        have AP : A ≠ P0 := (ne_of_none hP5 nA).symm
        have AF : A ≠ F0 := (ne_of_none hF5 nA).symm
        have AZ : A ≠ Z := (ne_of_none hZ5 nA).symm
        generalize upd H5 A (.lst []) = H6 at hA6 hF6 hP6 hZ6 hc6 hv6 hS6 s6
        refine ⟨.ref Z, rfl, Z, ws, rfl, .inl (SqL.of hZ6), ws.length, rfl, by omega, by omega, ?_⟩
        rw [Int.toNat_natCast]
        refine for_range (lo := 0) (n := ws.length) (fun j σ' H' => ∃ (y10 : Option V) (t : Addr) (as : List V), σ' = [some (.ref wa), some (.ref o), some (.ref Z), y3, y4, some (.ref P0), some (.ref F0), some (.ref c), some (.ref A), some (.ref t), y10] ∧ H' F0 = some (.lst vs') ∧ Paired (FcV H') vs' G.1 ∧ H' P0 = some (.dT (kvP (dueW bs j (G.2, [], st)).1)) ∧ (dueW bs j (G.2, [], st)).1.Nodup ∧ (∀ q ∈ (dueW bs j (G.2, [], st)).1, q ∈ bs.map (fun b : St2 => b.1)) ∧ H' A = some (.lst as) ∧ Paired (PrV H') as (dueW bs j (G.2, [], st)).2.1 ∧ as.length ≤ j ∧ PrV H' (.ref t) (dueW bs j (G.2, [], st)).2.2 ∧ (dueW bs j (G.2, [], st)).2.2 ∈ bs.map (fun b : St2 => b.1) ∧ H' Z = some (.lst ws) ∧ Paired (PrV H') ws S ∧ Same H H') ⟨_, c, [], rfl, hF6, hv6, hP6, nd5, in5, hA6, .nil, Nat.zero_le _, ⟨c, rfl, hc6⟩, hst, hZ6, hS6, s6⟩ ?_ ?_
        · clear hF6 hv6 hP6 hA6 hc6 hZ6 hS6 s6
          rintro j σ' H7 hj ⟨y10, t, as, rfl, hF7, hv7, hP7, nd7, in7, hA7, ha7, la7, ⟨t', et, ht7⟩, hx7, hZ7, hS7, s7⟩
          cases et
          have eW := dueW_succ bs j (G.2, [], st)
          generalize dueW bs j (G.2, [], st) = W at eW hP7 nd7 in7 ha7 ht7 hx7
          refine ⟨.ref t, rfl, .ref P0, rfl, P0, _, rfl, DGet.t (k := [Sum.inl W.2.2.1, Sum.inl W.2.2.2]) hP7 ht7, _, rfl, ?_⟩
          rw [kvP_val]
          by_cases hk : W.2.2 ∈ W.1
          · rw [if_pos hk]
            have eW2 : dueW bs (j + 1) (G.2, [], st) = W := by rw [eW]; unfold dueStep; rw [if_pos hk]
            exact ⟨_, t, as, rfl, hF7, hv7, by rw [eW2]; exact hP7, by rw [eW2]; exact nd7, by rw [eW2]; exact in7, hA7, by rw [eW2]; exact ha7, by omega, by rw [eW2]; exact ⟨t, rfl, ht7⟩, by rw [eW2]; exact hx7, hZ7, hS7, s7⟩
          · rw [if_neg hk]
            have eW2 : dueW bs (j + 1) (G.2, [], st) = (addP W.1 W.2.2, W.2.1 ++ [W.2.2], nxB bs W.2.2) := by rw [eW]; unfold dueStep; rw [if_neg hk]
            have lP : W.1.length ≤ 1000 := by
              have := sub_lenG nd7 in7
              rw [List.length_map] at this
              omega
            have hlt : (kvP W.1).length < sizeLine := by
              unfold kvP
              rw [List.length_map]
              exact Nat.lt_of_succ_le (Evl.sz_of (by omega))
            refine ⟨.ref P0, rfl, .ref t, rfl, P0, _, rfl, DPut.t (k := [Sum.inl W.2.2.1, Sum.inl W.2.2.2]) hP7 ht7 hlt, ?_⟩
            rw [kvP_put]
            have tkP := tk_dT (kvs' := kvP (addP W.1 W.2.2)) hP7
            have hF8 : (upd H7 P0 (.dT (kvP (addP W.1 W.2.2)))) F0 = some (.lst vs') := by rw [upd_ne FP]; exact hF7
            have hA8 : (upd H7 P0 (.dT (kvP (addP W.1 W.2.2)))) A = some (.lst as) := by rw [upd_ne AP]; exact hA7
            have hZ8 : (upd H7 P0 (.dT (kvP (addP W.1 W.2.2)))) Z = some (.lst ws) := by rw [upd_ne ZP]; exact hZ7
            have hP8 : (upd H7 P0 (.dT (kvP (addP W.1 W.2.2)))) P0 = some (.dT (kvP (addP W.1 W.2.2))) := upd_same
            have hv8 := fc_tk tkP hv7
            have hS8 := pr_tk tkP hS7
            have ha8 := pr_tk tkP ha7
            have ht8 := tkP _ _ ht7
            have s8 : Same H (upd H7 P0 (.dT (kvP (addP W.1 W.2.2)))) := Same.mut s7 nP0
            generalize upd H7 P0 (.dT (kvP (addP W.1 W.2.2))) = H8 at hF8 hA8 hZ8 hP8 hv8 hS8 ha8 ht8 s8
            refine ⟨.ref A, rfl, .inl ⟨rfl, _, SqL.of hA8⟩, .ref t, rfl, A, as, _, rfl, rfl, hA8, Nat.lt_of_succ_le (Evl.sz_of (by omega)), ?_⟩
            have tkA := tk_lst (ys := as ++ [.ref t]) hA8
            have hF9 : (upd H8 A (.lst (as ++ [.ref t]))) F0 = some (.lst vs') := by rw [upd_ne AF.symm]; exact hF8
            have hZ9 : (upd H8 A (.lst (as ++ [.ref t]))) Z = some (.lst ws) := by rw [upd_ne AZ.symm]; exact hZ8
            have hP9 : (upd H8 A (.lst (as ++ [.ref t]))) P0 = some (.dT (kvP (addP W.1 W.2.2))) := by rw [upd_ne AP.symm]; exact hP8
            have hA9 : (upd H8 A (.lst (as ++ [.ref t]))) A = some (.lst (as ++ [.ref t])) := upd_same
            have hv9 := fc_tk tkA hv8
            have hS9 := pr_tk tkA hS8
            have ht9 := tkA _ _ ht8
            have ha9 : Paired (PrV (upd H8 A (.lst (as ++ [.ref t])))) (as ++ [.ref t]) (W.2.1 ++ [W.2.2]) := Paired.snoc (pr_tk tkA ha8) ⟨t, rfl, ht9⟩
            have s9 : Same H (upd H8 A (.lst (as ++ [.ref t]))) := Same.mut s8 nA0
            generalize upd H8 A (.lst (as ++ [.ref t])) = H9 at hF9 hZ9 hP9 hA9 hv9 hS9 ht9 ha9 s9
            obtain ⟨k, p, row, i', hk1, er, ei, ex1, en1⟩ := step hx7
            have ht10 : H9 t = some (.tup [.int (k : Nat), .int (othE es k p)]) := by
              rw [ht9, ex1]
            refine ⟨.ref wa, rfl, .ref o, rfl, .ref t, rfl, .ref wa, n, ts, o, t, us, rs, es, k, p, row, i', rfl, hW.tk (Same.tk s9), s9 _ _ ho, Paired.mono (fun _ _ x => x.tk (Same.tk s9)) hp, od, tw, by omega, hk1, er, ei, ht10, fun r H10 s10 hr => ?_⟩
            have tk10 := Same.tk s10
            refine ⟨_, r, as ++ [.ref t], rfl, s10 _ _ hF9, fc_tk tk10 hv9, by rw [eW2]; exact s10 _ _ hP9, by rw [eW2]; exact addP_nd nd7, fun x hx => ?_, s10 _ _ hA9, by rw [eW2]; exact pr_tk tk10 ha9, by rw [List.length_append]; show _ + 1 ≤ _; omega, ?_, ?_, s10 _ _ hZ9, pr_tk tk10 hS9, s9.trans s10⟩
            · rw [eW2] at hx
              rcases addP_mem.mp hx with z | z
              · exact in7 x z
              · rw [z]; exact hx7
            · rw [eW2]
              show PrV H10 (.ref r) (nxB bs W.2.2)
              rw [en1]
              exact ⟨r, rfl, hr⟩
            · rw [eW2]
              exact rnd.key hx7
        · rintro σ' H7 ⟨y10, t, as, rfl, hF7, hv7, hP7, nd7, in7, hA7, ha7, la7, ht7, hx7, hZ7, hS7, s7⟩
          rw [due] at hP7 nd7 in7 ha7
          refine ⟨.ref F0, rfl, .inl ⟨rfl, _, SqL.of hF7⟩, .ref A, rfl, A, as, rfl, .inl ⟨SqL.of hA7, fun r nr => ?_⟩⟩
          have sr := same_new (o := .tup as) nr
          have tk := tk_lst (ys := vs' ++ [.ref r]) (sr _ _ hF7)
          have tkA := (Same.tk sr).trans tk
          refine ⟨F0, vs', _, rfl, rfl, sr _ _ hF7, Nat.lt_of_succ_le (Evl.sz_of (by omega)), ?_⟩
          exact ⟨_, _, _, _, vs' ++ [.ref r], rfl, upd_same, by rw [eG]; exact Paired.snoc (fc_tk tkA hv7) ⟨r, as, rfl, tk _ _ upd_same, pr_tk tkA ha7⟩, by rw [eG, upd_ne FP.symm]; exact sr _ _ hP7, by rw [eG]; exact nd7, by rw [eG]; exact in7, by rw [eG]; exact rnd.whole hst wh5, by rw [List.length_append]; show _ + 1 ≤ _; omega, by rw [upd_ne ZF]; exact sr _ _ hZ7, pr_tk tkA hS7, Same.mut (s7.trans sr) nF0⟩
    · rintro σ' H5 ⟨y7, y8, y9, y10, vs', rfl, hF5, hv5, hP5, nd5, in5, wh5, lv5, hZ5, hS5, s5⟩
      rw [lws, List.take_length] at hv5
      refine ⟨.ref F0, rfl, F0, _, rfl, .inl ⟨SqL.of hF5, fun r nr => ?_⟩⟩
      have sr := same_new (o := .tup vs') nr
      rw [← ebs] at pK hv5
      exact q r vs' S _ (s5.trans sr) pK oS upd_same (fc_tk (Same.tk sr) hv5)
end
/-! ### flats: odd faces (mathematics) -/
def parL {α : Type} (p : α → Bool) : List α → Bool
  | [] => false
  | x :: xs => xor (p x) (parL p xs)
theorem parL_app {α : Type} (p : α → Bool) : ∀ xs ys : List α, parL p (xs ++ ys) = xor (parL p xs) (parL p ys)
  | [], ys => by simp [parL]
  | x :: xs, ys => by rw [List.cons_append, parL, parL_app p xs ys, parL, Bool.xor_assoc]
theorem parL_len {α : Type} (p : α → Bool) : ∀ xs : List α, parL p xs = decide ((xs.filter p).length % 2 = 1)
  | [] => rfl
  | x :: xs => by
    rw [parL, parL_len p xs]
    cases h : p x with
    | false => rw [List.filter_cons_of_neg (by simp [h])]; simp
    | true =>
      rw [List.filter_cons_of_pos h, List.length_cons, Bool.true_xor, Bool.eq_iff_iff]
      simp
      omega
theorem parL_xor {α : Type} (p q : α → Bool) : ∀ xs : List α, parL (fun x => xor (p x) (q x)) xs = xor (parL p xs) (parL q xs)
  | [] => rfl
  | x :: xs => by
    rw [parL, parL_xor p q xs, parL, parL]
    cases p x <;> cases q x <;> cases parL p xs <;> cases parL q xs <;> rfl
theorem parL_map {α β : Type} (p : β → Bool) (f : α → β) : ∀ xs : List α, parL p (xs.map f) = parL (fun x => p (f x)) xs
  | [] => rfl
  | x :: xs => by rw [List.map_cons, parL, parL_map p f xs, parL]
theorem parL_congr {α : Type} {p q : α → Bool} : ∀ {xs : List α}, (∀ x ∈ xs, p x = q x) → parL p xs = parL q xs
  | [], _ => rfl
  | x :: xs, h => by rw [parL, parL, h x List.mem_cons_self, parL_congr fun y hy => h y (List.mem_cons_of_mem _ hy)]
theorem parL_perm {α : Type} {p : α → Bool} {xs ys : List α} (h : xs.Perm ys) : parL p xs = parL p ys := by
  rw [parL_len, parL_len, (h.filter p).length_eq]
theorem parL_flat {α : Type} (p : α → Bool) : ∀ fs : List (List α), parL p fs.flatten = parL (parL p) fs
  | [] => rfl
  | f :: fs => by rw [List.flatten_cons, parL_app, parL_flat p fs, parL]
theorem parL_round (f : Nat → Bool) : ∀ n, parL (fun i => f (i + 1)) (List.range n) = xor (parL f (List.range n)) (xor (f 0) (f n))
  | 0 => by simp [parL]
  | n + 1 => by
    rw [List.range_succ, parL_app, parL_app, parL_round f n]
    simp only [parL]
    cases parL f (List.range n) <;> cases f 0 <;> cases f n <;> cases f (n + 1) <;> rfl
def foeK (ts : List Tie) (x : Int × Int) : Bool := match ts[x.1.toNat]? with
  | some t => t.foe
  | none => false
def oddP (ts : List Tie) (ps : List (Int × Int)) : Bool := parL (foeK ts) ps
def cntP (ts : List Tie) (ps : List (Int × Int)) : Nat := (ps.filter (foeK ts)).length
def oddN (ts : List Tie) (fs : List (List (Int × Int))) (m : Nat) : List Int := ((List.range m).filter fun i => oddP ts (fs.getD i [])).map fun i : Nat => (i : Int)
theorem oddN_succ (ts : List Tie) (fs : List (List (Int × Int))) (m : Nat) : oddN ts fs (m + 1) = oddN ts fs m ++ if oddP ts (fs.getD m []) = true then [(m : Int)] else [] := by
  unfold oddN
  rw [List.range_succ, List.filter_append, List.map_append]
  cases h : oddP ts (fs.getD m []) with
  | true => rw [if_pos rfl, List.filter_cons_of_pos (p := fun i => oddP ts (fs.getD i [])) h]; rfl
  | false => rw [if_neg (by decide), List.filter_cons_of_neg (p := fun i => oddP ts (fs.getD i [])) (by simp only [h]; decide)]; rfl
theorem cntP_take {ts : List Tie} {ps : List (Int × Int)} {i : Nat} {x : Int × Int} (e : ps[i]? = some x) : cntP ts (ps.take (i + 1)) = cntP ts (ps.take i) + (if foeK ts x = true then 1 else 0) := by
  unfold cntP
  rw [List.take_add_one, e, List.filter_append, List.length_append]
  cases h : foeK ts x with
  | true => rw [if_pos rfl, show (some x).toList = [x] from rfl, List.filter_cons_of_pos h]; rfl
  | false => rw [if_neg (by decide), show (some x).toList = [x] from rfl, List.filter_cons_of_neg (by simp only [h]; decide)]; rfl
theorem oddP_cnt (ts : List Tie) (ps : List (Int × Int)) : oddP ts ps = decide (((cntP ts ps : Nat) : Int) % 2 = 1) := by
  unfold oddP cntP
  rw [parL_len, decide_eq_decide]
  omega
theorem oddN_par (ts : List Tie) (fs : List (List (Int × Int))) : ∀ m, m ≤ fs.length → decide ((oddN ts fs m).length % 2 = 1) = parL (oddP ts) (fs.take m)
  | 0, _ => rfl
  | m + 1, h => by
    have e := List.getElem?_eq_getElem (show m < fs.length by omega)
    rw [List.take_add_one, e, parL_app, ← oddN_par ts fs m (by omega), oddN_succ, List.length_append, List.getD_eq_getElem?_getD, e]
    show _ = xor _ (xor (oddP ts fs[m]) false)
    show decide ((_ + (if oddP ts fs[m] = true then [(m : Int)] else []).length) % 2 = 1) = _
    cases oddP ts fs[m] with
    | true =>
      rw [if_pos rfl, Bool.eq_iff_iff]
      simp
      omega
    | false =>
      rw [if_neg (by decide)]
      simp
theorem oddN_congr {ts us : List Tie} {fs : List (List (Int × Int))} (h : ∀ ps ∈ fs, oddP ts ps = oddP us ps) : ∀ m, m ≤ fs.length → oddN ts fs m = oddN us fs m
  | 0, _ => rfl
  | m + 1, hm => by
    have e := List.getElem?_eq_getElem (show m < fs.length by omega)
    rw [oddN_succ, oddN_succ, oddN_congr h m (by omega), List.getD_eq_getElem?_getD, e]
    show _ ++ (if oddP ts fs[m] = true then _ else _) = _ ++ (if oddP us fs[m] = true then _ else _)
    rw [h _ (List.getElem_mem _)]
theorem cycB_nd {bs : List St2} (r : Rnd bs) {s : Int × Int} (hs : s ∈ bs.map (·.1)) : (cycB bs s).Nodup := by
  have per := r.per hs
  unfold cycB
  rw [List.nodup_iff_pairwise_ne, List.pairwise_map]
  refine (List.pairwise_lt_range).imp_of_mem fun {a b} ha hb lt e => ?_
  have hb := List.mem_range.mp hb
  refine per.2.2.2.1 (b - a) (by omega) (by omega) (r.back hs (b - a) a ?_)
  rw [show b - a + a = b by omega]
  exact e.symm
theorem fold_new : ∀ {ps K : List (Int × Int)}, ps.Nodup → (∀ x ∈ ps, x ∉ K) → ps.foldl addP K = K ++ ps
  | [], K, _, _ => by simp
  | p :: ps, K, nd, no => by
    have nd' := List.nodup_cons.mp nd
    have e : addP K p = K ++ [p] := by
      unfold addP
      rw [if_neg (no p List.mem_cons_self)]
    rw [List.foldl_cons, e, fold_new nd'.2 fun x hx z => ?_, List.append_assoc]
    · rfl
    · rcases List.mem_append.mp z with z | z
      · exact no x (List.mem_cons_of_mem _ hx) z
      · rw [List.mem_singleton.mp z] at hx
        exact nd'.1 hx
/-- the faces part the steps -/
structure FacesOk (bs : List St2) (S : List (Int × Int)) (G : List (List (Int × Int)) × List (Int × Int)) : Prop where
  wh : Whole bs G.2
  fl : G.2 = G.1.flatten
  nd : G.2.Nodup
  sub : ∀ x ∈ G.2, x ∈ bs.map (·.1)
  all : ∀ x ∈ S, x ∈ G.2
  cyc : ∀ f ∈ G.1, ∃ s ∈ bs.map (fun b : St2 => b.1), f = cycB bs s
theorem Rnd.parts {bs : List St2} (r : Rnd bs) : ∀ {S : List (Int × Int)}, (∀ x ∈ S, x ∈ bs.map (·.1)) → FacesOk bs S (facesG bs S) := fun {S} => by
  induction hk : S.length generalizing S with
  | zero =>
    intro _
    rw [List.length_eq_zero_iff.mp hk]
    exact ⟨fun x _ => ⟨fun h => (by cases h), fun h => (by cases h)⟩, rfl, List.nodup_nil, fun x h => (by cases h), fun x h => (by cases h), fun x h => (by cases h)⟩
  | succ k ih =>
    intro hS
    have ne : S ≠ [] := fun z => by rw [z] at hk; cases hk
    obtain ⟨T, s, rfl⟩ : ∃ T s, S = T ++ [s] := ⟨S.dropLast, S.getLast ne, (List.dropLast_concat_getLast ne).symm⟩
    rw [List.length_append, List.length_singleton] at hk
    have F := ih (S := T) (by omega) fun x hx => hS x (List.mem_append_left _ hx)
    have hs := hS s (by simp)
    rw [facesG_snoc]
    generalize facesG bs T = G at F
    unfold faceStep
    by_cases h : s ∈ G.2
    · rw [if_pos h]
      exact ⟨F.wh, F.fl, F.nd, F.sub, fun x hx => (List.mem_append.mp hx).elim (F.all x) fun z => by rw [List.mem_singleton.mp z]; exact h, F.cyc⟩
    · rw [if_neg h]
      have nw : ∀ x ∈ cycB bs s, x ∉ G.2 := fun x hx z => by
        obtain ⟨i, hi⟩ := List.getElem?_of_mem hx
        have il := (List.getElem?_eq_some_iff.mp hi).1
        rw [cycB_len] at il
        rw [cyc_at il] at hi
        obtain rfl := Option.some.inj hi
        exact h ((F.wh.it r hs i).mpr z)
      have e := fold_new (cycB_nd r hs) nw
      have per := r.per hs
      refine ⟨r.whole hs F.wh, ?_, ?_, fun x hx => ?_, fun x hx => ?_, fun f hf => ?_⟩
      · show (cycB bs s).foldl addP G.2 = (G.1 ++ [cycB bs s]).flatten
        rw [e, F.fl, List.flatten_append]
        simp
      · show ((cycB bs s).foldl addP G.2).Nodup
        rw [e]
        exact List.nodup_append.mpr ⟨F.nd, cycB_nd r hs, fun a ha b hb z => nw b hb (z ▸ ha)⟩
      · rcases fold_mem.mp (show x ∈ (cycB bs s).foldl addP G.2 from hx) with z | z
        · exact F.sub x z
        · exact r.cyc_in hs x z
      · refine fold_mem.mpr ?_
        rcases List.mem_append.mp hx with z | z
        · exact .inl (F.all x z)
        · rw [List.mem_singleton.mp z]
          exact .inr (List.mem_of_getElem? (cyc_at (bs := bs) (s := s) (j := 0) (by omega)))
      · rcases List.mem_append.mp hf with z | z
        · exact F.cyc f z
        · exact ⟨s, hs, List.mem_singleton.mp z⟩
theorem facesG_perm {bs : List St2} (r : Rnd bs) {S : List (Int × Int)} (p : S.Perm (bs.map (·.1))) : (facesG bs S).1.flatten.Perm (bs.map (·.1)) := by
  have F := r.parts (S := S) fun x hx => p.mem_iff.mp hx
  rw [← F.fl]
  exact (List.perm_ext_iff_of_nodup F.nd r.nk).mpr fun x => ⟨F.sub x, fun h => F.all x (p.mem_iff.mpr h)⟩
theorem foe_ends (ts : List Tie) (es : List (Int × Int)) : ∀ m, parL (foeK ts) (endsL es m) = false
  | 0 => rfl
  | m + 1 => by
    rw [endsL_succ, parL_app, foe_ends ts es m]
    show xor false (xor (foeK ts ((m : Int), _)) (xor (foeK ts ((m : Int), _)) false)) = false
    show xor false (xor (foeK ts ((m : Int), 0)) (xor (foeK ts ((m : Int), 0)) false)) = false
    cases foeK ts ((m : Int), 0) <;> rfl
theorem faces_even {rs : List (List Int)} {es : List (Int × Int)} (od : Ord rs es) (ts : List Tie) {S : List (Int × Int)} (p : S.Perm ((stepsB es rs rs.length).map (·.1))) : (oddN ts (facesG (stepsB es rs rs.length) S).1 (facesG (stepsB es rs rs.length) S).1.length).length % 2 = 0 := by
  have h := oddN_par ts (facesG (stepsB es rs rs.length) S).1 _ (Nat.le_refl _)
  have rnd := stepsB_rnd od
  have e : parL (oddP ts) (facesG (stepsB es rs rs.length) S).1 = false := by
    show parL (parL (foeK ts)) _ = _
    rw [← parL_flat, parL_perm (facesG_perm rnd p), parL_perm ((List.perm_ext_iff_of_nodup rnd.nk (endsL_nd od _ (Nat.le_refl _))).mpr fun x => (stepsB_key od).trans endsL_mem.symm)]
    exact foe_ends ts es _
  rw [List.take_length, e] at h
  have := of_decide_eq_false h
  omega
/-- a web turned at a place -/
def flipAt (p : Int) (t : Tie) : Tie := ⟨t.one, t.other, xor t.foe (decide (p = t.one) || decide (p = t.other))⟩
theorem TwE.flip {ts : List Tie} {es : List (Int × Int)} (h : TwE ts es) (p : Int) : TwE (ts.map (flipAt p)) es := by
  refine ⟨by rw [List.length_map]; exact h.1, fun k t e h1 h2 => ?_⟩
  rw [List.getElem?_map] at h1
  obtain ⟨t0, h0, rfl⟩ := Option.map_eq_some_iff.mp h1
  exact h.2 k t0 e h0 h2
theorem foeK_flip {rs : List (List Int)} {ts : List Tie} {es : List (Int × Int)} (od : Ord rs es) (tw : TwE ts es) (p : Int) {x : Int × Int} (hx : x ∈ (stepsB es rs rs.length).map (·.1)) : foeK (ts.map (flipAt p)) x = xor (foeK ts x) (xor (decide (x.2 = p)) (decide ((nxB (stepsB es rs rs.length) x).2 = p))) := by
  obtain ⟨k, q, row, i, hk1, er, ei, ex, en⟩ := step_of od hx
  obtain ⟨e, ee⟩ : ∃ e, es[k]? = some e := ⟨_, List.getElem?_eq_getElem hk1⟩
  obtain ⟨t, et⟩ : ∃ t, ts[k]? = some t := ⟨_, List.getElem?_eq_getElem (by rw [tw.1]; exact hk1)⟩
  have jt := tw.2 k t e et ee
  have ends := od.ends e (List.mem_of_getElem? ee)
  obtain ⟨k', e', ek', ee', pe⟩ := (od.mem q row er (k : Int)).mp (List.mem_of_getElem? ei)
  have ekk : k' = k := by omega
  rw [ekk, ee] at ee'
  obtain rfl := Option.some.inj ee'
  have oe : othE es (k : Int) q = e.1 + e.2 - (q : Int) := by
    unfold othE
    rw [List.getD_eq_getElem?_getD, Int.toNat_natCast, ee]
    rfl
  rw [en, ex]
  unfold foeK
  rw [Int.toNat_natCast, List.getElem?_map, et]
  show xor t.foe (decide (p = t.one) || decide (p = t.other)) = xor t.foe (xor (decide (othE es (k : Int) q = p)) (decide ((q : Int) = p)))
  congr 1
  rw [oe, Bool.eq_iff_iff]
  by_cases h1 : p = t.one <;> by_cases h2 : p = t.other <;> by_cases h3 : e.1 + e.2 - (q : Int) = p <;> by_cases h4 : (q : Int) = p <;> simp only [h1, h2, h3, h4, decide_true, decide_false, Bool.or_true, Bool.true_or, Bool.or_false, Bool.xor_true, Bool.true_xor, Bool.xor_false, Bool.false_xor, Bool.not_true, Bool.not_false] <;> simp <;> omega
theorem oddP_flip {rs : List (List Int)} {ts : List Tie} {es : List (Int × Int)} (od : Ord rs es) (tw : TwE ts es) (p : Int) {s : Int × Int} (hs : s ∈ (stepsB es rs rs.length).map (·.1)) : oddP (ts.map (flipAt p)) (cycB (stepsB es rs rs.length) s) = oddP ts (cycB (stepsB es rs rs.length) s) := by
  have rnd := stepsB_rnd od
  have per := rnd.per hs
  unfold oddP
  rw [parL_congr (q := fun x => xor (foeK ts x) (xor (decide (x.2 = p)) (decide ((nxB (stepsB es rs rs.length) x).2 = p)))) fun x hx => foeK_flip od tw p (rnd.cyc_in hs x hx), parL_xor, parL_xor]
  have e : parL (fun x : Int × Int => decide ((nxB (stepsB es rs rs.length) x).2 = p)) (cycB (stepsB es rs rs.length) s) = parL (fun x : Int × Int => decide (x.2 = p)) (cycB (stepsB es rs rs.length) s) := by
    unfold cycB
    rw [parL_map, parL_map]
    have := parL_round (fun i => decide ((itF (nxB (stepsB es rs rs.length)) i s).2 = p)) (perB (stepsB es rs rs.length) s)
    refine Eq.trans this ?_
    rw [per.2.2.1]
    show xor _ (xor (decide (s.2 = p)) (decide (s.2 = p))) = _
    rw [Bool.xor_self, Bool.xor_false]
  rw [e, Bool.xor_self, Bool.xor_false]
theorem odd_flip {rs : List (List Int)} {ts : List Tie} {es : List (Int × Int)} (od : Ord rs es) (tw : TwE ts es) (p : Int) {S : List (Int × Int)} (pS : S.Perm ((stepsB es rs rs.length).map (·.1))) : oddN (ts.map (flipAt p)) (facesG (stepsB es rs rs.length) S).1 (facesG (stepsB es rs rs.length) S).1.length = oddN ts (facesG (stepsB es rs rs.length) S).1 (facesG (stepsB es rs rs.length) S).1.length := by
  refine oddN_congr (fun ps hps => ?_) _ (Nat.le_refl _)
  obtain ⟨s, hs, rfl⟩ := ((stepsB_rnd od).parts (S := S) fun x hx => pS.mem_iff.mp hx).cyc ps hps
  exact oddP_flip od tw p hs
/-! ### k54: odd faces -/
def rLenK54 (K : PySem.W.Frag) : List V → Hp → VK → Prop := fun xs H Q => ∃ p ys, xs = [V.ref p] ∧ (SqL K H p ys ∨ SqT K H p ys) ∧ Q (V.int (ys.length : Nat)) H
def cntV (ts : List Tie) (fs : List (List (Int × Int))) (j : Nat) : List V := ((fs.take j).map fun f => V.int (cntP ts f : Nat))
theorem foe_eq54 {ts : List Tie} {x : Int × Int} {t : Tie} (e : ts[x.1.toNat]? = some t) : decide (V.str (kindS t.foe) = V.str "foe") = foeK ts x := by
  unfold foeK
  rw [e]
  show decide (V.str (kindS t.foe) = V.str "foe") = t.foe
  cases t.foe
  · exact decide_eq_false fun h => by have := V.str.inj h; revert this; decide
  · exact decide_eq_true rfl
def spOddAmong : Sp := fun vs H Q _ => ∃ (wv : V) (n : Int) (ts : List Tie) (r : Addr) (vs' : List V) (fs : List (List (Int × Int))), vs = [wv, .ref r] ∧ WebAt H wv n ts ∧ H r = some (.tup vs') ∧ Paired (FcV H) vs' fs ∧ fs.length ≤ 500 ∧ (∀ f ∈ fs, f.length ≤ 500 ∧ ∀ x ∈ f, 0 ≤ x.1 ∧ x.1 < (ts.length : Int)) ∧
  ∀ r H', Same H H' → H' r = some (.tup ((oddN ts fs fs.length).map V.int)) → Q (.ref r) H'
def spOddF : Sp := fun vs H Q _ => ∃ (wv : V) (n : Int) (ts : List Tie) (o : Addr) (us : List V) (rs : List (List Int)) (es : List (Int × Int)), vs = [wv, .ref o] ∧ WebAt H wv n ts ∧ H o = some (.tup us) ∧ Paired (IntsV H) us rs ∧ Ord rs es ∧ TwE ts es ∧ rs.length ≤ 50 ∧ es.length ≤ 100 ∧
  ∀ r S H', Same H H' → S.Perm ((stepsB es rs rs.length).map (·.1)) → S.Pairwise (fun x y => SrtO.lexB y x = false) → H' r = some (.tup ((oddN ts (facesG (stepsB es rs rs.length) S).1 (facesG (stepsB es rs rs.length) S).1.length).map V.int)) → Q (.ref r) H'
theorem faces_bound {rs : List (List Int)} {ts : List Tie} {es : List (Int × Int)} (od : Ord rs es) (tw : TwE ts es) (le : es.length ≤ 100) {S : List (Int × Int)} (pS : S.Perm ((stepsB es rs rs.length).map (·.1))) : (facesG (stepsB es rs rs.length) S).1.length ≤ 500 ∧ ∀ f ∈ (facesG (stepsB es rs rs.length) S).1, f.length ≤ 500 ∧ ∀ x ∈ f, 0 ≤ x.1 ∧ x.1 < (ts.length : Int) := by
  have rnd := stepsB_rnd od
  have few := stepsB_few od
  have F := rnd.parts (S := S) fun x hx => pS.mem_iff.mp hx
  have hp := facesG_perm rnd pS
  have hl := hp.length_eq
  rw [List.length_map] at hl
  have each : ∀ f ∈ (facesG (stepsB es rs rs.length) S).1, 1 ≤ f.length := fun f hf => by
    obtain ⟨s, hs, rfl⟩ := F.cyc f hf
    rw [cycB_len]
    exact (rnd.per hs).1
  have many : ∀ gs : List (List (Int × Int)), (∀ f ∈ gs, 1 ≤ f.length) → gs.length ≤ gs.flatten.length := fun gs => by
    induction gs with
    | nil => intro _; exact Nat.zero_le _
    | cons g gs ih =>
      intro h
      have h1 := h g List.mem_cons_self
      have h2 := ih fun f hf => h f (List.mem_cons_of_mem _ hf)
      rw [List.flatten_cons, List.length_append, List.length_cons]
      omega
  refine ⟨by have := many _ each; omega, fun f hf => ?_⟩
  obtain ⟨s, hs, rfl⟩ := F.cyc f hf
  refine ⟨by rw [cycB_len]; have := (rnd.per hs).2.1; omega, fun x hx => ?_⟩
  obtain ⟨k, e, ee, e1, _⟩ := (stepsB_key od).mp (rnd.cyc_in hs x hx)
  have := (List.getElem?_eq_some_iff.mp ee).1
  rw [tw.1, e1]
  omega
section
variable {P : Program} {w : World} {K : PySem.W.Frag} {mg : Str → Option Value} {base : Heap}
set_option maxHeartbeats 2000000 in
theorem ok_odd_among {f : Addr} {fd : FuncData} (F : Fun K "odd_among" "odd_among" s_odd_among f fd) (M : Free mg) (m_enumerate : mg "enumerate" = none) : FnOk P w K mg base CX0 1 f fd ["web", "faces"] spOddAmong := by
  refine F.ok sc_odd_among (fun vs H Q E h => ?_) (fun cdv A outer s H vs Q E hr h => ?_)
  · obtain ⟨wv, n, ts, r, vs1, fs, rfl, _⟩ := h
    rfl
  · obtain ⟨wv, n, ts, r, vs1, fs, rfl, hW, hr0, hf, lf0, bd, q⟩ := h
    refine ⟨_, (pss_cons (ps_setLc (i := 2) (own := [("face", 5)]) (g := (gName 5)) (tt := tYes) rfl sc_odd_among.nd rfl rfl (sw_true rfl rfl rfl (by decide +kernel)) (pi_tup (pv 1)) (blkOk_by (N := N_odd_among) (sc := defScope s_odd_among) (own := [("face", 5)]) (by decide +kernel)) (fun _ _ _ _ _ => (pg_name (i := 5) sc_odd_among.nd rfl (.inl rfl))) (fun _ _ _ _ _ => pts_nil) (fun _ _ _ _ _ => (pe_callB (r := rLenK54 K) call_len_seq (by rfl) M.len PySem.boot_len (pa_cons (pe_lc (wi := iTup K (tVar 5)) (own := [("tie", 3), ("place", 4)]) (g := (gTup K 2 (gCons (gName 3) (gCons (gName 4) gNil)))) (te := tVar 3) rfl sc_odd_among.nd (pi_tup (pv 5)) (blkOk_by (N := N_odd_among) (sc := { kind := ScopeKind.function, names := [(".0", NameKind.local), ("face", NameKind.local), ("len", NameKind.globalImplicit), ("web", NameKind.cell)], isGenerator := false, isCoroutine := false }) (own := [("tie", 3), ("place", 4)]) (by decide +kernel)) (fun _ _ _ _ _ => (pg_tup rfl (pgs_cons (pg_name (i := 3) sc_odd_among.nd rfl (.inl rfl)) (pgs_cons (pg_name (i := 4) sc_odd_among.nd rfl (.inl rfl)) pgs_nil)))) (fun _ _ _ _ _ => (pts_one (pt_cmpR op_eq (pe_ix (r := rIxT K) ix_tup (pe_ix (r := rIxT K) ix_tup (pe_ix (r := rIxT K) ix_tup (pv 0) pe_int (fun _ _ => rfl)) (pv 3) (fun _ _ => rfl)) pe_int (fun _ _ => rfl)) pe_str (nomark _)))) (fun _ _ _ _ _ => (pv 3))) pa_nil))))
      (pss_one (ps_ret (pe_callTy call_tuple_of (by rfl) M.tuple (by decide +kernel) (pa_cons (pe_lc (own := [("number", 6), ("many", 7)]) (g := (gTup K 2 (gCons (gName 6) (gCons (gName 7) gNil)))) (te := tVar 6) rfl sc_odd_among.nd (pi_enum (by rfl) m_enumerate (pa_cons (pv 2) pa_nil)) (blkOk_by (N := N_odd_among) (sc := defScope s_odd_among) (own := [("number", 6), ("many", 7)]) (by decide +kernel)) (fun _ _ _ _ _ => (pg_tup rfl (pgs_cons (pg_name (i := 6) sc_odd_among.nd rfl (.inl rfl)) (pgs_cons (pg_name (i := 7) sc_odd_among.nd rfl (.inl rfl)) pgs_nil)))) (fun _ _ _ _ _ => (pts_one (pt_cmpR op_eq (pe_op op_mod (pv 7) pe_int) pe_int (nomark _)))) (fun _ _ _ _ _ => (pv 6))) pa_nil))))), ?_⟩
    obtain ⟨wa, wb, us, rfl, hwa, hwb, hp⟩ := id hW
    have lv : vs1.length = fs.length := Paired.length hf
    refine ⟨.ref r, rfl, r, rfl, ⟨_, SqT.of hr0⟩, fun Z nZ => ?_⟩
    refine lc_tup (K := K) (xs := vs1) (fun j H' => H' Z = some (.lst (cntV ts fs j)) ∧ Same H H') ⟨upd_same, same_new nZ⟩ (fun j H' _ h => SqT.of (h.2 _ _ hr0)) ?_ ?_
    · rintro j x H2 ex ⟨hZ, s2⟩
      obtain ⟨ps, ep, a, ws, rfl, ha, hws⟩ := Paired.at hf ex
      have jl := (List.getElem?_eq_some_iff.mp ex).1
      have bp := bd ps (List.mem_of_getElem? ep)
      have ha2 := s2 _ _ ha
      refine ⟨rfl, .ref a, rfl, a, rfl, ⟨_, SqT.of ha2⟩, fun Y nY => ?_⟩
      refine lc_tup (K := K) (xs := ws) (fun i H' => ∃ zs : List V, H' Y = some (.lst zs) ∧ zs.length = cntP ts (ps.take i) ∧ Same H2 H') ⟨[], upd_same, rfl, same_new nY⟩ (fun i H' _ h => by
        obtain ⟨_, _, _, s⟩ := h
        exact SqT.of (s _ _ ha2)) ?_ ?_
      · rintro i x H3 ei ⟨zs, hY, lz, s3⟩
        obtain ⟨q0, eq0, c, rfl, hc⟩ := Paired.at hws ei
        have il := (List.getElem?_eq_some_iff.mp ei).1
        have b0 := bp.2 q0 (List.mem_of_getElem? eq0)
        obtain ⟨t, et⟩ : ∃ t, ts[q0.1.toNat]? = some t := ⟨_, List.getElem?_eq_getElem (by omega)⟩
        obtain ⟨u, eu, tc, rfl, htc⟩ := Paired.at' hp et
        have s03 := s2.trans s3
        refine ⟨c, _, rfl, SqT.of (s03 _ _ hc), rfl, _, _, rfl, _, _, rfl, rfl, rfl, .ref wa, rfl, wa, _, 1, .ref wb, rfl, rfl, SqT.of (s03 _ _ hwa), rfl, .int q0.1, rfl, wb, us, q0.1, .ref tc, rfl, rfl, SqT.of (s03 _ _ hwb), atI_of b0.1 eu, tc, _, 2, _, rfl, rfl, SqT.of (s03 _ _ htc), rfl, rfl, _, rfl, ?_⟩
        rw [foe_eq54 et]
        have lc : zs.length ≤ i := by
          rw [lz]
          unfold cntP
          have := List.length_filter_le (foeK ts) (ps.take i)
          rw [List.length_take] at this
          omega
        have lw : ws.length = ps.length := Paired.length hws
        cases hk : foeK ts q0 with
        | true => exact ⟨.int q0.1, rfl, zs, hY, small1000 (by omega), zs ++ [.int q0.1], upd_same, by rw [List.length_append, cntP_take eq0, hk, lz]; rfl, Same.mut s3 nY⟩
        | false =>
          simp only [Bool.false_eq_true, if_false]
          exact ⟨zs, hY, by rw [cntP_take eq0, hk, lz]; rfl, s3⟩
      rintro H3 ⟨zs, hY, lz, s3⟩
      have lw : ws.length = ps.length := Paired.length hws
      rw [lw, List.take_length] at lz
      refine ⟨Y, _, rfl, .inl (SqL.of hY), _, s3 _ _ hZ, ?_, ?_, Same.mut (s2.trans s3) nZ⟩
      · unfold cntV
        rw [List.length_map, List.length_take]
        exact small1000 (by omega)
      · rw [upd_same]
        unfold cntV
        rw [List.take_add_one, ep, List.map_append, lz]
        rfl
    · rintro H2 ⟨hZ, s2⟩
      rw [lv] at hZ
      refine ⟨.ref Z, rfl, Z, _, rfl, SqL.of hZ, fun Y nY => ?_⟩
      refine lc_it (walk_enum (K := K) (xs := cntV ts fs fs.length)) (fun i H' => H' Y = some (.lst ((oddN ts fs i).map V.int)) ∧ Same H2 H') ⟨upd_same, same_new nY⟩ (fun i H' _ h => SqL.of (h.2 _ _ hZ)) ?_ ?_
      · rintro i x H3 H4 hi ⟨hY, s3⟩ ⟨T, x1, y, rfl, nT, rfl, e1, e2⟩
        obtain rfl : V.int (i : Nat) = x1 := Option.some.inj e1
        have il : i < fs.length := by
          unfold cntV at hi
          rw [List.length_map, List.length_take] at hi
          omega
        have ef := List.getElem?_eq_getElem il
        have ey : y = V.int (cntP ts fs[i] : Nat) := by
          have e2 : (cntV ts fs fs.length)[i]? = some y := e2
          unfold cntV at e2
          rw [List.take_length, List.getElem?_map, ef] at e2
          exact (Option.some.inj e2).symm
        subst ey
        have sT := same_new (o := .tup [.int (i : Nat), .int (cntP ts fs[i] : Nat)]) nT
        have hT := upd_same (H := H3) (a := T) (o := .tup [.int (i : Nat), .int (cntP ts fs[i] : Nat)])
        have hY4 := sT _ _ hY
        have s4 := s3.trans sT
        generalize upd H3 T (.tup [.int (i : Nat), .int (cntP ts fs[i] : Nat)]) = H4 at hT hY4 s4
        refine ⟨T, _, rfl, SqT.of hT, rfl, _, _, rfl, _, _, rfl, rfl, rfl, .int _, rfl, _, _, rfl, rfl, show (0 : Int) < 2 by decide, rfl, _, rfl, ?_⟩
        have eo : decide (V.int ((cntP ts fs[i] : Nat) % 2 : Int) = V.int 1) = oddP ts fs[i] := by
          rw [oddP_cnt, decide_eq_decide]
          exact ⟨fun h => V.int.inj h, fun h => by rw [h]⟩
        rw [eo]
        have ln : (oddN ts fs i).length ≤ i := by
          unfold oddN
          rw [List.length_map]
          have := List.length_filter_le (fun i => oddP ts (fs.getD i [])) (List.range i)
          rw [List.length_range] at this
          exact this
        have eN : oddN ts fs (i + 1) = oddN ts fs i ++ if oddP ts fs[i] = true then [(i : Int)] else [] := by
          rw [oddN_succ, List.getD_eq_getElem?_getD, ef]
          rfl
        refine ite2 (fun hb => ?_) (fun hb => ?_)
        · rw [if_pos hb] at eN
          exact ⟨.int (i : Nat), rfl, _, hY4, by rw [List.length_map]; exact small1000 (by omega), by rw [upd_same, eN, List.map_append]; rfl, Same.mut s4 nY⟩
        · rw [if_neg hb, List.append_nil] at eN
          exact ⟨by rw [eN]; exact hY4, s4⟩
      · rintro H3 ⟨hY, s3⟩
        have : (cntV ts fs fs.length).length = fs.length := by
          unfold cntV
          rw [List.length_map, List.take_length]
        rw [this] at hY
        refine ⟨Y, _, rfl, .inl ⟨SqL.of hY, fun r nr => ?_⟩⟩
        exact q r _ ((s2.trans s3).trans (same_new nr)) upd_same
theorem ok_odd_faces {f : Addr} {fd : FuncData} (F : Fun K "odd_faces" "odd_faces" s_odd_faces f fd) (D_faces_of : Df P w K mg base 2 "faces_of" ["web", "orders"] spFaces) (D_odd_among : Df P w K mg base 1 "odd_among" ["web", "faces"] spOddAmong) : FnOk P w K mg base CX0 3 f fd ["web", "orders"] spOddF := by
  obtain ⟨f_faces_of, fd_faces_of, G_faces_of, g_faces_of, k_faces_of, b_faces_of⟩ := D_faces_of
  obtain ⟨f_odd_among, fd_odd_among, G_odd_among, g_odd_among, k_odd_among, b_odd_among⟩ := D_odd_among
  refine F.ok sc_odd_faces (fun vs H Q E h => ?_) (fun cdv A outer s H vs Q E hr h => ?_)
  · obtain ⟨wv, n, ts, o, us, rs, es, rfl, _⟩ := h
    rfl
  · obtain ⟨wv, n, ts, o, us, rs, es, rfl, hW, ho, hp, od, tw, lr, le, q⟩ := h
    refine ⟨_, (pss_one (ps_ret (pe_call G_odd_among (hr.mono (by decide)) (by rfl) g_odd_among k_odd_among b_odd_among .nil pass0 (pa_cons (pv 0) (pa_cons (pe_call G_faces_of (hr.mono (by decide)) (by rfl) g_faces_of k_faces_of b_faces_of .nil pass0 (pa_cons (pv 0) (pa_cons (pv 1) pa_nil))) pa_nil))))), ?_⟩
    have few := stepsB_few od
    refine ⟨wv, rfl, wv, rfl, .ref o, rfl, wv, n, ts, o, us, rs, es, rfl, hW, ho, hp, od, tw, by omega, le, by omega, fun r vs1 S H1 s1 pS oS hr hv => ?_⟩
    have bd := faces_bound od tw le pS
    exact ⟨wv, n, ts, r, vs1, _, rfl, hW.tk (Same.tk s1), hr, hv, bd.1, bd.2, fun r2 H2 s2 h2 => q r2 S H2 (s1.trans s2) pS oS h2⟩
set_option maxHeartbeats 2000000 in
theorem ok_l_odd {f : Addr} {fd : FuncData} (F : Fun K "_law_odd" "_law_odd" s_l_odd f fd) (M : Free mg) (m_enumerate : mg "enumerate" = none) (D_l_due : Df P w K mg base 2 "_law_due" ["_law_web_here", "_law_orders"] spDueF) : FnOk P w K mg base CX0 3 f fd ["_law_web_here", "_law_orders"] spOddF := by
  obtain ⟨f_l_due, fd_l_due, G_l_due, g_l_due, k_l_due, b_l_due⟩ := D_l_due
  refine F.ok sc_l_odd (fun vs H Q E h => ?_) (fun cdv A outer s H vs Q E hr h => ?_)
  · obtain ⟨wv, n, ts, o, us, rs, es, rfl, _⟩ := h
    rfl
  · obtain ⟨wv, n, ts, o, us, rs, es, rfl, hW, ho, hp, od, tw, lr, le, q⟩ := h
    refine ⟨_, (pss_cons (ps_set (i := 2) sc_l_odd.nd rfl (.inl rfl) (pe_lst pa_nil))
      (pss_cons (ps_for PassesOwn.never rfl (pi_enumT (by rfl) m_enumerate (pa_cons (pe_call G_l_due (hr.mono (by decide)) (by rfl) g_l_due k_l_due b_l_due .nil pass0 (pa_cons (pv 0) (pa_cons (pv 1) pa_nil))) pa_nil)) (pg_tup rfl (pgs_cons (pg_name (i := 3) sc_l_odd.nd rfl (.inl rfl)) (pgs_cons (pg_name (i := 4) sc_l_odd.nd rfl (.inl rfl)) pgs_nil)))
        (pss_cons (ps_set (i := 5) sc_l_odd.nd rfl (.inl rfl) pe_int)
        (pss_cons (ps_for PassesOwn.never rfl (pi_tup (pv 4)) (pg_tup rfl (pgs_cons (pg_name (i := 6) sc_l_odd.nd rfl (.inl rfl)) (pgs_cons (pg_name (i := 7) sc_l_odd.nd rfl (.inl rfl)) pgs_nil)))
          (pss_one (ps_set (i := 5) sc_l_odd.nd rfl (.inl rfl) (pe_op op_add (pv 5) (pe_callTy call_int1 (by rfl) M.int (by decide +kernel) (pa_cons (pe_cmpR op_eq (pe_ix ix_tup (pe_ix ix_tup (pe_ix ix_tup (pv 0) pe_int (fun _ _ => rfl)) (pv 6) (fun _ _ => rfl)) pe_int (fun _ _ => rfl)) pe_str (nomark _)) pa_nil))))))
        (pss_one (ps_if (pt_cmpR op_eq (pe_op op_mod (pv 5) pe_int) pe_int (nomark _))
          (pss_one (ps_expr (pe_bm PySem.F.plainAttrs_list PySem.F.slot_list_append PySem.F.type_list_append mt_append (pv 2) (pa_cons (pv 3) pa_nil))))
          pss_nil)))))
      (pss_one (ps_ret (pe_callTy call_tuple_of (by rfl) M.tuple (by decide +kernel) (pa_cons (pv 2) pa_nil)))))), ?_⟩
    obtain ⟨wa, wb, ws0, rfl, hwa, hwb, hpw⟩ := id hW
    refine ⟨Nat.zero_le _, fun L nL => ?_⟩
    have sL := same_new (o := .lst []) nL
    have hL1 : (upd H L (.lst [])) L = some (.lst ((oddN ts ([] : List (List (Int × Int))) 0).map V.int)) := upd_same
    generalize upd H L (.lst []) = H1 at sL hL1
    refine ⟨.ref wa, rfl, .ref o, rfl, .ref wa, n, ts, o, us, rs, es, rfl, hW.tk (Same.tk sL), sL _ _ ho, Paired.mono (fun _ _ x => x.tk (Same.tk sL)) hp, od, tw, lr, le, fun r vs1 S H2 s2 pS oS hr2 hv2 => ?_⟩
    have bd := faces_bound od tw le pS
    have q := fun r H' s h => q r S H' s pS oS h
    generalize (facesG (stepsB es rs rs.length) S).1 = fs at hv2 bd q
    clear pS oS
    have lv : vs1.length = fs.length := Paired.length hv2
    refine ⟨r, vs1, rfl, SqT.of hr2, ?_⟩
    have hL2 : H2 L = some (.lst ((oddN ts fs 0).map V.int)) := s2 _ _ hL1
    have s02 := sL.trans s2
    refine for_it (walk_enumT (xs := vs1)) (fun i σ' H' => ∃ y3 y4 y5 y6 y7 : Option V, σ' = [some (.ref wa), some (.ref o), some (.ref L), y3, y4, y5, y6, y7] ∧ H' L = some (.lst ((oddN ts fs i).map V.int)) ∧ H' r = some (.tup vs1) ∧ Paired (FcV H') vs1 fs ∧ Same H H') ⟨_, _, _, _, _, rfl, hL2, hr2, hv2, s02⟩ (fun i σ' H' _ h => by
      obtain ⟨_, _, _, _, _, _, _, h, _⟩ := h
      exact SqT.of h) ?_ ?_
    · clear hL2 hr2 hv2 s02
      rintro i x σ' H3 H4 hi ⟨y3, y4, y5, y6, y7, rfl, hL, hr3, hv3, s3⟩ ⟨T, x1, y, rfl, nT, rfl, e1, e2⟩
      obtain rfl : V.int (i : Nat) = x1 := Option.some.inj e1
      obtain ⟨ps, ep, a, ws, rfl, ha, hws⟩ := Paired.at hv3 e2
      have bp := bd.2 ps (List.mem_of_getElem? ep)
      have sT := same_new (o := .tup [.int (i : Nat), .ref a]) nT
      have hT := upd_same (H := H3) (a := T) (o := .tup [.int (i : Nat), .ref a])
      have hL4 := sT _ _ hL
      have hr4 := sT _ _ hr3
      have hv4 := fc_tk (Same.tk sT) hv3
      have ha4 := sT _ _ ha
      have hws4 := pr_tk (Same.tk sT) hws
      have s4 := s3.trans sT
      generalize upd H3 T (.tup [.int (i : Nat), .ref a]) = H4 at hT hL4 hr4 hv4 ha4 hws4 s4
      refine ⟨T, _, rfl, SqT.of hT, rfl, _, _, rfl, _, _, rfl, rfl, ?_⟩
      refine ⟨.ref a, rfl, a, rfl, ⟨_, SqT.of ha4⟩, ?_⟩
      refine for_tup (xs := ws) (fun j σ' H' => ∃ y6 y7 : Option V, σ' = [some (.ref wa), some (.ref o), some (.ref L), some (.int (i : Nat)), some (.ref a), some (.int (cntP ts (ps.take j) : Nat)), y6, y7] ∧ H' = H4) ⟨_, _, rfl, rfl⟩ (fun j σ' H' _ h => by
        obtain ⟨_, _, _, rfl⟩ := h
        exact SqT.of ha4) ?_ ?_
      · rintro j x σ' H' ex ⟨y6, y7, rfl, rfl⟩
        obtain ⟨q0, eq0, c, rfl, hc⟩ := Paired.at hws4 ex
        have b0 := bp.2 q0 (List.mem_of_getElem? eq0)
        obtain ⟨t, et⟩ : ∃ t, ts[q0.1.toNat]? = some t := ⟨_, List.getElem?_eq_getElem (by omega)⟩
        obtain ⟨u, eu, tc, rfl, htc⟩ := Paired.at' hpw et
        refine ⟨c, _, rfl, SqT.of hc, rfl, _, _, rfl, _, _, rfl, rfl, ?_⟩
        refine ⟨_, rfl, .ref wa, rfl, wa, _, 1, .ref wb, rfl, rfl, SqT.of (s4 _ _ hwa), rfl, .int q0.1, rfl, wb, ws0, q0.1, .ref tc, rfl, rfl, SqT.of (s4 _ _ hwb), atI_of b0.1 eu, tc, _, 2, _, rfl, rfl, SqT.of (s4 _ _ htc), rfl, rfl, .inr ⟨_, rfl, ?_⟩⟩
        rw [foe_eq54 et]
        refine ⟨_, _, rfl, rfl, some (.int q0.1), some (.int q0.2), ?_, rfl⟩
        rw [cntP_take eq0]
        cases foeK ts q0 <;> rfl
      · rintro σ' H' ⟨y6, y7, rfl, rfl⟩
        have lw : ws.length = ps.length := Paired.length hws4
        rw [lw, List.take_length]
        refine ⟨.int _, rfl, _, _, rfl, rfl, show (0 : Int) < 2 by decide, rfl, _, rfl, ?_⟩
        have eo : decide (V.int ((cntP ts ps : Nat) % 2 : Int) = V.int 1) = oddP ts ps := by
          rw [oddP_cnt, decide_eq_decide]
          exact ⟨fun h => V.int.inj h, fun h => by rw [h]⟩
        rw [eo]
        have es0 := oddN_succ ts fs i
        rw [List.getD_eq_getElem?_getD, ep] at es0
        have es0 : oddN ts fs (i + 1) = oddN ts fs i ++ if oddP ts ps = true then [(i : Int)] else [] := es0
        have ln : (oddN ts fs i).length ≤ i := by
          unfold oddN
          rw [List.length_map]
          have := List.length_filter_le (fun i => oddP ts (fs.getD i [])) (List.range i)
          rw [List.length_range] at this
          exact this
        cases ho : oddP ts ps with
        | true =>
          rw [ho, if_pos rfl] at es0
          refine ⟨.ref L, rfl, .inl ⟨rfl, _, SqL.of hL4⟩, .int (i : Nat), rfl, L, _, _, rfl, rfl, hL4, by rw [List.length_map]; exact small1000 (by omega), ?_⟩
          have tk := tk_lst (ys := (oddN ts fs i).map V.int ++ [.int (i : Nat)]) hL4
          exact ⟨_, _, _, _, _, rfl, by rw [upd_same, es0, List.map_append]; rfl, tk _ _ hr4, fc_tk tk hv4, Same.mut s4 nL⟩
        | false =>
          rw [ho, if_neg (by decide), List.append_nil] at es0
          exact ⟨_, _, _, _, _, rfl, by rw [es0]; exact hL4, hr4, hv4, s4⟩
    · rintro σ' H3 ⟨y3, y4, y5, y6, y7, rfl, hL, hr3, hv3, s3⟩
      rw [lv] at hL
      refine ⟨.ref L, rfl, L, _, rfl, .inl ⟨SqL.of hL, fun r2 nr => ?_⟩⟩
      exact q r2 _ (s3.trans (same_new nr)) upd_same
end
/-! ### k54: other kinds, turned at a place -/
theorem inTwoF (x a b : Int) : inV (.int x) [.int a, .int b] = (decide (x = a) || decide (x = b)) := by
  have e : inV (.int x) [.int a, .int b] = ((a == x) || ((b == x) || false)) := rfl
  rw [e, Bool.or_false, Bool.eq_iff_iff, Bool.or_eq_true, Bool.or_eq_true, beq_iff_eq, beq_iff_eq, decide_eq_true_iff, decide_eq_true_iff]
  exact ⟨fun h => h.imp Eq.symm Eq.symm, fun h => h.imp Eq.symm Eq.symm⟩
def SameEnds (ts us : List Tie) : Prop := us.length = ts.length ∧ ∀ (k : Nat) (t u : Tie), ts[k]? = some t → us[k]? = some u → u.one = t.one ∧ u.other = t.other
theorem SameEnds.snoc {ts us : List Tie} {k : Nat} {t u : Tie} (h : SameEnds (ts.take k) us) (e : ts[k]? = some t) (j : u.one = t.one ∧ u.other = t.other) : SameEnds (ts.take (k + 1)) (us ++ [u]) := by
  have kl := (List.getElem?_eq_some_iff.mp e).1
  have l := h.1
  rw [List.length_take, Nat.min_eq_left (by omega)] at l
  refine ⟨by rw [List.length_append, List.length_take, l]; show k + 1 = _; omega, fun i t' u' h1 h2 => ?_⟩
  by_cases hi : i < k
  · rw [List.getElem?_append_left (by omega)] at h2
    rw [List.getElem?_take_of_lt (by omega)] at h1
    exact h.2 i t' u' (by rw [List.getElem?_take_of_lt hi]; exact h1) h2
  · have il := (List.getElem?_eq_some_iff.mp h2).1
    rw [List.length_append, List.length_singleton] at il
    have ik : i = k := by omega
    subst ik
    rw [List.getElem?_append_right (by omega), show i - us.length = 0 by omega] at h2
    rw [List.getElem?_take_of_lt (by omega), e] at h1
    cases h1
    cases h2
    exact j
theorem TwE.kinds {ts us : List Tie} {es : List (Int × Int)} (h : TwE ts es) (s : SameEnds ts us) : TwE us es := by
  refine ⟨s.1.trans h.1, fun k u e h1 h2 => ?_⟩
  have kl := (List.getElem?_eq_some_iff.mp h1).1
  have et := List.getElem?_eq_getElem (show k < ts.length by rw [← s.1]; exact kl)
  have j := s.2 k _ u et h1
  rw [j.1, j.2]
  exact h.2 k _ e et h2
def spKinds : Sp := fun vs H Q _ => ∃ (d : Addr) (wv : V) (n : Int) (ts : List Tie), vs = [.ref d, wv] ∧ WebAt H wv n ts ∧ FDk H d ∧ ts.length ≤ 200 ∧
  ∀ v us H', WebAt H' v n us → SameEnds ts us → FDk H' d → Kp d d H H' → Q v H'
def spTurnAt : Sp := fun vs H Q _ => ∃ (wv : V) (n : Int) (ts : List Tie) (p : Int), vs = [wv, .int p] ∧ WebAt H wv n ts ∧ ts.length ≤ 200 ∧
  ∀ v H', Same H H' → WebAt H' v n (ts.map (flipAt p)) → Q v H'
section
variable {P : Program} {w : World} {K : PySem.W.Frag} {mg : Str → Option Value} {base : Heap}
set_option maxHeartbeats 2000000 in
theorem ok_l_kinds {f : Addr} {fd : FuncData} (F : Fun K "_law_kinds" "_law_kinds" s_l_kinds f fd) (M : Free mg) (D_l_take : Df P w K mg base 2 "_law_take" ["_law_deck_here", "_law_most"] spTake) : FnOk P w K mg base CX0 3 f fd ["_law_deck_here", "_law_web_here"] spKinds := by
  obtain ⟨f_l_take, fd_l_take, G_l_take, g_l_take, k_l_take, b_l_take⟩ := D_l_take
  refine F.ok sc_l_kinds (fun vs H Q E h => ?_) (fun cdv A outer s H vs Q E hr h => ?_)
  · obtain ⟨d, wv, n, ts, rfl, _⟩ := h
    rfl
  · obtain ⟨d, wv, n, ts, rfl, hW, D, le, q⟩ := h
    refine ⟨_, (pss_cons (ps_set (i := 2) sc_l_kinds.nd rfl (.inl rfl) (pe_call G_l_take (hr.mono (by decide)) (by rfl) g_l_take k_l_take b_l_take .nil pass0 (pa_cons (pv 0) (pa_cons pe_int pa_nil))))
      (pss_cons (ps_set (i := 3) sc_l_kinds.nd rfl (.inl rfl) (pe_lst pa_nil))
      (pss_cons (ps_for PassesOwn.never rfl (pi_tup (pe_ix ix_tup (pv 1) pe_int (fun _ _ => rfl))) (pg_tup rfl (pgs_cons (pg_name (i := 4) sc_l_kinds.nd rfl (.inl rfl)) (pgs_cons (pg_name (i := 5) sc_l_kinds.nd rfl (.inl rfl)) (pgs_cons (pg_name (i := 6) sc_l_kinds.nd rfl (.inl rfl)) pgs_nil))))
        (pss_cons (ps_set (i := 7) sc_l_kinds.nd rfl (.inl rfl) (pe_ix ix_list (pe_lst (pa_cons (pe_cmpR op_eq (pv 6) pe_str (nomark _)) (pa_cons (pe_cmpR op_eq (pe_call G_l_take (hr.mono (by decide)) (by rfl) g_l_take k_l_take b_l_take .nil pass0 (pa_cons (pv 0) (pa_cons pe_int pa_nil))) pe_int (nomark _)) (pa_cons pe_bl (pa_cons (pe_cmpR op_gt (pe_call G_l_take (hr.mono (by decide)) (by rfl) g_l_take k_l_take b_l_take .nil pass0 (pa_cons (pv 0) (pa_cons pe_int pa_nil))) pe_int (nomark _)) pa_nil))))) (pv 2) (fun _ _ => rfl)))
        (pss_one (ps_expr (pe_bm PySem.F.plainAttrs_list PySem.F.slot_list_append PySem.F.type_list_append mt_append (pv 3) (pa_cons (pe_tup (pa_cons (pv 4) (pa_cons (pv 5) (pa_cons (pe_ix ix_list (pe_lst (pa_cons pe_str (pa_cons pe_str pa_nil))) (pe_callTy call_int1 (by rfl) M.int (by decide +kernel) (pa_cons (pv 7) pa_nil)) (fun _ _ => rfl)) pa_nil)))) pa_nil))))))
      (pss_one (ps_ret (pe_tup (pa_cons (pe_ix ix_tup (pv 1) pe_int (fun _ _ => rfl)) (pa_cons (pe_callTy call_tuple_of (by rfl) M.tuple (by decide +kernel) (pa_cons (pv 3) pa_nil)) pa_nil)))))))), ?_⟩
    obtain ⟨wa, wb, ws, rfl, hwa, hwb, hp⟩ := id hW
    have lw : ws.length = ts.length := Paired.length hp
    refine ⟨.ref d, rfl, d, 4, rfl, D, by decide, by decide, fun way H1 w0 w1 D1 K1 => ?_⟩
    refine ⟨Nat.zero_le _, fun L nL => ?_⟩
    have sL := same_new (o := .lst []) nL
    have hL2 : (upd H1 L (.lst [])) L = some (.lst []) := upd_same
    have Ld : L ≠ d := D1.ned nL
    have D2 := D1.same sL
    have K2 := K1.trans (Same.kp sL)
    have nL0 := K1.free nL Ld Ld
    generalize upd H1 L (.lst []) = H2 at hL2 D2 K2
    clear sL
    have tk2 := D.tk K2
    refine ⟨.ref wa, rfl, wa, _, 1, .ref wb, rfl, rfl, SqT.of (tk2 _ _ hwa), rfl, wb, rfl, ⟨_, SqT.of (tk2 _ _ hwb)⟩, ?_⟩
    refine for_tup (xs := ws) (fun i σ' H' => ∃ (y4 y5 y6 y7 : Option V) (vs : List V) (us : List Tie), σ' = [some (.ref d), some (.ref wa), some (.int way), some (.ref L), y4, y5, y6, y7] ∧ H' L = some (.lst vs) ∧ Paired (TieV H') vs us ∧ SameEnds (ts.take i) us ∧ FDk H' d ∧ Kp d d H H') ⟨none, none, none, none, [], [], rfl, hL2, .nil, ⟨rfl, fun k t u h => by simp at h⟩, D2, K2⟩ (fun i σ' H' _ h => by
      obtain ⟨_, _, _, _, _, _, _, _, _, _, _, K⟩ := h
      exact SqT.of (D.tk K _ _ hwb)) ?_ ?_
    · clear hL2 D2 K2 tk2 D1 K1 nL
      rintro i x σ' H3 ex ⟨y4, y5, y6, y7, vs, us, rfl, hL, hv, se, D3, K3⟩
      obtain ⟨t, et, c, rfl, hc⟩ := Paired.at hp ex
      have il := (List.getElem?_eq_some_iff.mp et).1
      have lus := se.1
      rw [List.length_take] at lus
      have lv := Paired.length hv
      refine ⟨c, _, rfl, SqT.of (D.tk K3 _ _ hc), rfl, _, _, rfl, _, _, rfl, _, _, rfl, rfl, ?_⟩
      refine ⟨.str (kindS t.foe), rfl, rfl, .ref d, rfl, d, 8, rfl, D3, by decide, by decide, fun a H4 a0 a1 D4 K4 => ⟨rfl, .ref d, rfl, d, 3, rfl, D4, by decide, by decide, fun b H5 b0 b1 D5 K5 => ⟨_, _, rfl, rfl, by show 4 ≤ sizeLine; decide, fun p np => ?_⟩⟩⟩
      obtain ⟨fo, ef⟩ : ∃ fo : Bool, atI [V.bl (decide (V.str (kindS t.foe) = V.str "foe")), V.bl (decide (V.int a = V.int 0)), V.bl true, V.bl (decide (b > 0))] way = some (.bl fo) := by
        have : way = 0 ∨ way = 1 ∨ way = 2 ∨ way = 3 := by omega
        rcases this with e | e | e | e <;> subst e
        · exact ⟨_, rfl⟩
        · exact ⟨_, rfl⟩
        · exact ⟨_, rfl⟩
        · exact ⟨_, rfl⟩
      refine ⟨.int way, rfl, p, _, way, .bl fo, rfl, rfl, SqL.of upd_same, ef, ?_⟩
      have sp := same_new (o := .lst [V.bl (decide (V.str (kindS t.foe) = V.str "foe")), V.bl (decide (V.int a = V.int 0)), V.bl true, V.bl (decide (b > 0))]) np
      have D6 := D5.same sp
      have K6 := ((K3.trans K4).trans K5).trans (Same.kp sp)
      have hL6 := sp _ _ (K5 _ _ Ld Ld (K4 _ _ Ld Ld hL))
      have hv6 := ties_tk (Same.tk sp) (ties_tk (D4.tk K5) (ties_tk (D3.tk K4) hv))
      generalize upd H5 p (.lst [V.bl (decide (V.str (kindS t.foe) = V.str "foe")), V.bl (decide (V.int a = V.int 0)), V.bl true, V.bl (decide (b > 0))]) = H6 at D6 K6 hL6 hv6
      clear sp D5 K5 D4 K4 D3 K3 hL hv np ef
      refine ⟨.ref L, rfl, .inl ⟨rfl, _, SqL.of hL6⟩, .int t.one, rfl, .int t.other, rfl, by show 2 ≤ sizeLine; decide, fun p2 n2 => ⟨.bl fo, rfl, .inr ⟨fo, rfl, ?_⟩⟩⟩
      refine ⟨p2, _, _, .str (kindS fo), rfl, rfl, SqL.of upd_same, by cases fo <;> rfl, by show 3 ≤ sizeLine; decide, fun c2 nc2 => ?_⟩
      have s7 := same_new (o := .lst [.str "friend", .str "foe"]) n2
      have s8 := same_new (o := .tup [.int t.one, .int t.other, .str (kindS fo)]) nc2
      have h8 := upd_same (H := upd H6 p2 (.lst [.str "friend", .str "foe"])) (a := c2) (o := .tup [.int t.one, .int t.other, .str (kindS fo)])
      have s68 := s7.trans s8
      generalize upd (upd H6 p2 (.lst [.str "friend", .str "foe"])) c2 (.tup [.int t.one, .int t.other, .str (kindS fo)]) = H8 at h8 s68
      clear s7 s8 n2 nc2
      have hL8 := s68 _ _ hL6
      have hv8 := ties_tk (Same.tk s68) hv6
      refine ⟨L, vs, _, rfl, rfl, hL8, small1000 (by omega), ?_⟩
      have tk := tk_lst (ys := vs ++ [.ref c2]) hL8
      refine ⟨_, _, _, _, vs ++ [.ref c2], us ++ [⟨t.one, t.other, fo⟩], rfl, upd_same, Paired.snoc (ties_tk tk hv8) ⟨c2, rfl, tk _ _ h8⟩, se.snoc et ⟨rfl, rfl⟩, ?_, (K6.trans (Same.kp s68)).mut nL0⟩
      obtain ⟨ns, h1, h2⟩ := D6.same s68
      exact ⟨ns, by rw [upd_ne (fun z => Ld z.symm)]; exact h1, h2⟩
    · rintro σ' H3 ⟨y4, y5, y6, y7, vs, us, rfl, hL, hv, se, D3, K3⟩
      rw [lw, List.take_length] at se
      refine ⟨.ref wa, rfl, wa, _, 0, .int n, rfl, rfl, SqT.of (D.tk K3 _ _ hwa), rfl, .ref L, rfl, L, vs, rfl, .inl ⟨SqL.of hL, fun e ne => ⟨by show 2 ≤ sizeLine; decide, fun a na => ?_⟩⟩⟩
      have s2 := (same_new (o := .tup vs) ne).trans (same_new (o := .tup [.int n, .ref e]) na)
      exact q _ us _ ⟨a, e, vs, rfl, upd_same, same_new na _ _ upd_same, ties_tk (Same.tk s2) hv⟩ se (D3.same s2) (K3.trans (Same.kp s2))
set_option maxHeartbeats 2000000 in
theorem ok_l_turned_at {f : Addr} {fd : FuncData} (F : Fun K "_law_turned_at" "_law_turned_at" s_l_turned_at f fd) (M : Free mg) : FnOk P w K mg base CX0 1 f fd ["_law_web_here", "_law_place"] spTurnAt := by
  refine F.ok sc_l_turned_at (fun vs H Q E h => ?_) (fun cdv A outer s H vs Q E hr h => ?_)
  · obtain ⟨wv, n, ts, p, rfl, _⟩ := h
    rfl
  · obtain ⟨wv, n, ts, p, rfl, hW, le, q⟩ := h
    refine ⟨_, (pss_cons (ps_set (i := 2) sc_l_turned_at.nd rfl (.inl rfl) (pe_lst pa_nil))
      (pss_cons (ps_for PassesOwn.never rfl (pi_tup (pe_ix ix_tup (pv 0) pe_int (fun _ _ => rfl))) (pg_tup rfl (pgs_cons (pg_name (i := 3) sc_l_turned_at.nd rfl (.inl rfl)) (pgs_cons (pg_name (i := 4) sc_l_turned_at.nd rfl (.inl rfl)) (pgs_cons (pg_name (i := 5) sc_l_turned_at.nd rfl (.inl rfl)) pgs_nil))))
        (Evl.pss_cut (ps_if (pt_cmpR op_in_seq (pv 1) (pe_tup (pa_cons (pv 3) (pa_cons (pv 4) pa_nil))) rfl)
          (pss_one (ps_set (i := 5) sc_l_turned_at.nd rfl (.inl rfl) (pe_ix ix_list (pe_lst (pa_cons pe_str (pa_cons pe_str pa_nil))) (pe_callTy call_int1 (by rfl) M.int (by decide +kernel) (pa_cons (pe_cmpR op_eq (pv 5) pe_str (nomark _)) pa_nil)) (fun _ _ => rfl))))
          pss_nil)
        (pss_one (ps_expr (pe_bm PySem.F.plainAttrs_list PySem.F.slot_list_append PySem.F.type_list_append mt_append (pv 2) (pa_cons (pe_tup (pa_cons (pv 3) (pa_cons (pv 4) (pa_cons (pv 5) pa_nil)))) pa_nil))))))
      (pss_one (ps_ret (pe_tup (pa_cons (pe_ix ix_tup (pv 0) pe_int (fun _ _ => rfl)) (pa_cons (pe_callTy call_tuple_of (by rfl) M.tuple (by decide +kernel) (pa_cons (pv 2) pa_nil)) pa_nil))))))), ?_⟩
    obtain ⟨wa, wb, ws, rfl, hwa, hwb, hp⟩ := id hW
    have lw : ws.length = ts.length := Paired.length hp
    refine ⟨Nat.zero_le _, fun L nL => ?_⟩
    have sL := same_new (o := .lst []) nL
    have hL1 : (upd H L (.lst [])) L = some (.lst []) := upd_same
    generalize upd H L (.lst []) = H1 at sL hL1
    refine ⟨.ref wa, rfl, wa, _, 1, .ref wb, rfl, rfl, SqT.of (sL _ _ hwa), rfl, wb, rfl, ⟨_, SqT.of (sL _ _ hwb)⟩, ?_⟩
    refine for_tup (xs := ws) (fun i σ' H' => ∃ (y3 y4 y5 : Option V) (vs : List V), σ' = [some (.ref wa), some (.int p), some (.ref L), y3, y4, y5] ∧ H' L = some (.lst vs) ∧ Paired (TieV H') vs ((ts.take i).map (flipAt p)) ∧ Same H H') ⟨none, none, none, [], rfl, hL1, .nil, sL⟩ (fun i σ' H' _ h => by
      obtain ⟨_, _, _, _, _, _, _, s⟩ := h
      exact SqT.of (s _ _ hwb)) ?_ ?_
    · rintro i x σ' H3 ex ⟨y3, y4, y5, vs, rfl, hL, hv, s3⟩
      obtain ⟨t, et, c, rfl, hc⟩ := Paired.at hp ex
      have il := (List.getElem?_eq_some_iff.mp et).1
      have lv := Paired.length hv
      rw [List.length_map, List.length_take] at lv
      refine ⟨c, _, rfl, SqT.of (s3 _ _ hc), rfl, _, _, rfl, _, _, rfl, _, _, rfl, rfl, ?_⟩
      refine ⟨fun σ' H' => σ' = [some (.ref wa), some (.int p), some (.ref L), some (.int t.one), some (.int t.other), some (.str (kindS (flipAt p t).foe))] ∧ H' L = some (.lst vs) ∧ Paired (TieV H') vs ((ts.take i).map (flipAt p)) ∧ Same H H', ?_, ?_⟩
      · refine ⟨.int p, rfl, .int t.one, rfl, .int t.other, rfl, by show 2 ≤ sizeLine; decide, fun p2 n2 => ?_⟩
        have s4 := same_new (o := .tup [.int t.one, .int t.other]) n2
        refine ⟨p2, _, rfl, .inr (SqT.of upd_same), rfl, rfl, _, rfl, ?_⟩
        have hL4 := s4 _ _ hL
        have hv4 := ties_tk (Same.tk s4) hv
        have s34 := s3.trans s4
        generalize upd H3 p2 (.tup [.int t.one, .int t.other]) = H4 at hL4 hv4 s34
        rw [if_neg (by decide), inTwoF]
        have fe : (flipAt p t).foe = xor t.foe (decide (p = t.one) || decide (p = t.other)) := rfl
        cases hb : (decide (p = t.one) || decide (p = t.other)) with
        | true =>
          refine ⟨by show 2 ≤ sizeLine; decide, fun p3 n3 => ⟨.str (kindS t.foe), rfl, rfl, .inr ⟨_, rfl, ?_⟩⟩⟩
          have s5 := same_new (o := .lst [.str "friend", .str "foe"]) n3
          refine ⟨p3, _, _, .str (kindS (!t.foe)), rfl, rfl, SqL.of upd_same, by cases t.foe <;> rfl, ?_⟩
          refine ⟨?_, s5 _ _ hL4, ties_tk (Same.tk s5) hv4, s34.trans s5⟩
          rw [fe, hb, Bool.xor_true]
          rfl
        | false =>
          refine ⟨?_, hL4, hv4, s34⟩
          rw [fe, hb, Bool.xor_false]
          rfl
      rintro σ' H4 ⟨rfl, hL4, hv4, s4⟩
      refine ⟨.ref L, rfl, .inl ⟨rfl, _, SqL.of hL4⟩, .int t.one, rfl, .int t.other, rfl, .str (kindS (flipAt p t).foe), rfl, by show 3 ≤ sizeLine; decide, fun c2 n2 => ?_⟩
      have s5 := same_new (o := .tup [.int t.one, .int t.other, .str (kindS (flipAt p t).foe)]) n2
      have h5 := upd_same (H := H4) (a := c2) (o := .tup [.int t.one, .int t.other, .str (kindS (flipAt p t).foe)])
      generalize upd H4 c2 (.tup [.int t.one, .int t.other, .str (kindS (flipAt p t).foe)]) = H5 at s5 h5
      have hL5 := s5 _ _ hL4
      have hv5 := ties_tk (Same.tk s5) hv4
      refine ⟨L, vs, _, rfl, rfl, hL5, small1000 (by omega), ?_⟩
      have tk := tk_lst (ys := vs ++ [.ref c2]) hL5
      refine ⟨_, _, _, vs ++ [.ref c2], rfl, upd_same, ?_, Same.mut (s4.trans s5) nL⟩
      rw [List.take_add_one, et, List.map_append]
      exact Paired.snoc (ties_tk tk hv5) ⟨c2, rfl, tk _ _ h5⟩
    · rintro σ' H3 ⟨y3, y4, y5, vs, rfl, hL, hv, s3⟩
      rw [lw, List.take_length] at hv
      refine ⟨.ref wa, rfl, wa, _, 0, .int n, rfl, rfl, SqT.of (s3 _ _ hwa), rfl, .ref L, rfl, L, vs, rfl, .inl ⟨SqL.of hL, fun e ne => ⟨by show 2 ≤ sizeLine; decide, fun a na => ?_⟩⟩⟩
      have s2 := (same_new (o := .tup vs) ne).trans (same_new (o := .tup [.int n, .ref e]) na)
      exact q _ _ (s3.trans s2) ⟨a, e, vs, rfl, upd_same, same_new na _ _ upd_same, ties_tk (Same.tk s2) hv⟩
end
/-! ### k54: right, law -/
def spRight54 : Sp := fun vs H Q _ => ∃ (wv : V) (n : Int) (ts : List Tie) (o r : Addr) (us : List V) (rs : List (List Int)) (es S : List (Int × Int)), vs = [wv, .ref o, .ref r] ∧ WebAt H wv n ts ∧ H o = some (.tup us) ∧ Paired (IntsV H) us rs ∧ Ord rs es ∧ TwE ts es ∧ rs.length ≤ 50 ∧ es.length ≤ 100 ∧ S.Perm ((stepsB es rs rs.length).map (·.1)) ∧ S.Pairwise (fun x y => SrtO.lexB y x = false) ∧ H r = some (.tup ((oddN ts (facesG (stepsB es rs rs.length) S).1 (facesG (stepsB es rs rs.length) S).1.length).map V.int)) ∧ ∀ H', Same H H' → Q (.bl true) H'
def spLaw (K : PySem.W.Frag) : Sp := fun vs H Q _ => ∃ (a : Addr) (ns : List Int), vs = [.ref a] ∧ SqL K H a (ns.map V.int) ∧ ns.length ≤ 63 ∧ ∀ H', Q (.bl true) H'
theorem shaped_ints54 (xs : List Int) : SeqAt.shaped (intsD xs) = true := by
  unfold SeqAt.shaped
  rw [lay_intsD, deep_intsD]
  rfl
section
variable {P : Program} {w : World} {K : PySem.W.Frag} {mg : Str → Option Value} {base : Heap}
set_option maxHeartbeats 2000000 in
theorem ok_l_right {f : Addr} {fd : FuncData} (F : Fun K "_law_right" "_law_right" s_l_right f fd) (M : Free mg) (D_odd_faces : Df P w K mg base 3 "odd_faces" ["web", "orders"] spOddF) : FnOk P w K mg base CX0 4 f fd ["_law_web_here", "_law_orders", "_law_due_here"] spRight54 := by
  obtain ⟨f_odd_faces, fd_odd_faces, G_odd_faces, g_odd_faces, k_odd_faces, b_odd_faces⟩ := D_odd_faces
  refine F.ok sc_l_right (fun vs H Q E h => ?_) (fun cdv A outer s H vs Q E hr h => ?_)
  · obtain ⟨wv, n, ts, o, r, us, rs, es, S, rfl, _⟩ := h
    rfl
  · obtain ⟨wv, n, ts, o, r, us, rs, es, S, rfl, hW, ho, hp, od, tw, lr, le, pS, oS, hr0, q⟩ := h
    refine ⟨_, (pss_cons (ps_for PassesOwn.never rfl (pi_range1 (by rfl) M.range (pa_cons pe_int pa_nil)) (pg_name (i := 3) sc_l_right.nd rfl (.inl rfl))
        (pss_cons (ps_set (i := 4) sc_l_right.nd rfl (.inl rfl) (pe_call G_odd_faces (hr.mono (by decide)) (by rfl) g_odd_faces k_odd_faces b_odd_faces .nil pass0 (pa_cons (pv 0) (pa_cons (pv 1) pa_nil))))
        (pss_one (ps_if (PW.pt (pw_or (pt_not (pt_val (pe_callB call_isi (by rfl) M.isinstance (by decide +kernel) (pa_cons (pv 4) (pa_cons (pe_bltn (v := .ty "tuple") (by rfl) M.tuple (by decide +kernel) rfl) pa_nil))))) (pw_or (pt_cmpR (op_neD hr.units) (pv 4) (pv 2) (nomark _)) (pw_or1 (pt_cmpR (op_neE hr.units0) (pe_lc (own := [("_law_one", 5)]) (g := (gName 5)) (te := tVar 5) rfl sc_l_right.nd (pi_tup (pv 4)) (blkOk_by (N := N_l_right) (sc := defScope s_l_right) (own := [("_law_one", 5)]) (by decide +kernel)) (fun _ _ _ _ _ => (pg_name (i := 5) sc_l_right.nd rfl (.inl rfl))) (fun _ _ _ _ _ => (pts_one (pt_val (pe_callB (r := rIsi K) call_isi (by rfl) M.isinstance (by decide +kernel) (pa_cons (pv 5) (pa_cons (pe_bltn (v := .ty "bool") (by rfl) M.bool (by decide +kernel) rfl) pa_nil)))))) (fun _ _ _ _ _ => (pv 5))) (pe_lst pa_nil) (nomark _))))))
          (pss_one (ps_ret pe_bl))
          pss_nil))))
      (pss_one (ps_ret (pe_cmpR op_eq (pe_op op_mod (pe_callB call_len_seq (by rfl) M.len PySem.boot_len (pa_cons (pv 2) pa_nil)) pe_int) pe_int (nomark _))))), ?_⟩
    have ev := faces_even od ts pS
    refine ⟨2, rfl, by decide, by decide, ?_⟩
    refine for_range (lo := 0) (n := 2) (fun i σ' H' => ∃ y3 y4 y5 : Option V, σ' = [some wv, some (.ref o), some (.ref r), y3, y4, y5] ∧ Same H H') ⟨_, _, _, rfl, fun _ _ h => h⟩ ?_ ?_
    · rintro i σ' H2 hi ⟨y3, y4, y5, rfl, s2⟩
      refine ⟨wv, rfl, .ref o, rfl, wv, n, ts, o, us, rs, es, rfl, hW.tk (Same.tk s2), s2 _ _ ho, Paired.mono (fun _ _ x => x.tk (Same.tk s2)) hp, od, tw, lr, le, fun r2 S2 H3 s3 pS2 oS2 hr2 => ?_⟩
      rw [sorted_one (pS2.trans pS.symm) oS2 oS] at hr2
      have s23 := s2.trans s3
      have hr3 := s23 _ _ hr0
      generalize oddN ts (facesG (stepsB es rs rs.length) S).1 (facesG (stepsB es rs rs.length) S).1.length = ks at hr2 hr3
      obtain ⟨t1, i1, j1⟩ := kn_tup (K := K) (H := H3) (v := .ref r2) (.inr (.inl ⟨_, hr2⟩))
      rw [isT_of hr2] at j1
      refine ⟨.ref r2, rfl, .ref r2, _, t1, _, _, rfl, .ty "tuple", i1, j1, _, rfl, .ref r2, rfl, .ref r, rfl, intsD ks, intsD ks, IntsV.dp ⟨r2, rfl, hr2⟩, IntsV.dp ⟨r, rfl, hr3⟩, shaped_ints54 _, shaped_ints54 _, _, rfl, ?_⟩
      rw [SeqAt.eqv_refl _ (lay_intsD _)]
      refine ⟨.ref r2, rfl, r2, rfl, ⟨_, SqT.of hr2⟩, fun Z nZ => ?_⟩
      refine lc_tup (K := K) (xs := ks.map V.int) (fun j H' => H' Z = some (.lst []) ∧ Same H3 H') ⟨upd_same, same_new nZ⟩ (fun j H' _ h => SqT.of (h.2 _ _ hr2)) ?_ ?_
      · rintro j x H4 ex ⟨hZ, s4⟩
        rw [List.getElem?_map] at ex
        obtain ⟨k, ek, rfl⟩ := Option.map_eq_some_iff.mp ex
        obtain ⟨t2, h2, e2⟩ := kn_bool (K := K) (H := H4) (v := .int k) trivial
        exact ⟨rfl, .int k, rfl, .int k, _, t2, _, _, rfl, .ty "bool", h2, e2, _, rfl, hZ, s4⟩
      · rintro H4 ⟨hZ, s4⟩
        refine ⟨Nat.zero_le _, fun e ne => ⟨Z, e, [], rfl, rfl, SqL.of (same_new ne _ _ hZ), SqL.of upd_same, _, rfl, ?_⟩⟩
        exact ⟨_, _, _, rfl, (s23.trans s4).trans (same_new ne)⟩
    · rintro σ' H2 ⟨y3, y4, y5, rfl, s2⟩
      refine ⟨.ref r, rfl, r, _, rfl, .inr (SqT.of (s2 _ _ hr0)), _, 2, rfl, rfl, show (0 : Int) < 2 by decide, rfl, ?_⟩
      rw [List.length_map]
      have : decide (V.int (((oddN ts (facesG (stepsB es rs rs.length) S).1 (facesG (stepsB es rs rs.length) S).1.length).length : Nat) % 2 : Int) = V.int 0) = true := decide_eq_true (by rw [show (((oddN ts (facesG (stepsB es rs rs.length) S).1 (facesG (stepsB es rs rs.length) S).1.length).length : Nat) : Int) % 2 = 0 by omega])
      rw [this]
      exact q _ s2
set_option maxHeartbeats 2000000 in
theorem ok_law {f : Addr} {fd : FuncData} (F : Fun K "law" "law" s_law f fd) (M : Free mg) (D_l_deck : Df P w K mg base 2 "_law_deck" ["_law_script"] (spDeckF K)) (D_l_take : Df P w K mg base 2 "_law_take" ["_law_deck_here", "_law_most"] spTake) (D_l_grown : Df P w K mg base 3 "_law_grown" ["_law_deck_here", "_law_most", "_law_many_ties"] spGrown) (D_l_crossed : Df P w K mg base 3 "_law_crossed" ["_law_deck_here", "_law_orders"] spCrossed) (D_l_web : Df P w K mg base 3 "_law_web" ["_law_deck_here", "_law_ties", "_law_places"] spWebF) (D_l_kinds : Df P w K mg base 3 "_law_kinds" ["_law_deck_here", "_law_web_here"] spKinds) (D_l_turned : Df P w K mg base 3 "_law_turned" ["_law_deck_here", "_law_orders"] spTurned) (D_l_odd : Df P w K mg base 3 "_law_odd" ["_law_web_here", "_law_orders"] spOddF) (D_l_right : Df P w K mg base 4 "_law_right" ["_law_web_here", "_law_orders", "_law_due_here"] spRight54) (D_l_turned_at : Df P w K mg base 1 "_law_turned_at" ["_law_web_here", "_law_place"] spTurnAt) : FnOk P w K mg base CX0 5 f fd ["_law_script"] (spLaw K) := by
  obtain ⟨f_l_deck, fd_l_deck, G_l_deck, g_l_deck, k_l_deck, b_l_deck⟩ := D_l_deck
  obtain ⟨f_l_take, fd_l_take, G_l_take, g_l_take, k_l_take, b_l_take⟩ := D_l_take
  obtain ⟨f_l_grown, fd_l_grown, G_l_grown, g_l_grown, k_l_grown, b_l_grown⟩ := D_l_grown
  obtain ⟨f_l_crossed, fd_l_crossed, G_l_crossed, g_l_crossed, k_l_crossed, b_l_crossed⟩ := D_l_crossed
  obtain ⟨f_l_web, fd_l_web, G_l_web, g_l_web, k_l_web, b_l_web⟩ := D_l_web
  obtain ⟨f_l_kinds, fd_l_kinds, G_l_kinds, g_l_kinds, k_l_kinds, b_l_kinds⟩ := D_l_kinds
  obtain ⟨f_l_turned, fd_l_turned, G_l_turned, g_l_turned, k_l_turned, b_l_turned⟩ := D_l_turned
  obtain ⟨f_l_odd, fd_l_odd, G_l_odd, g_l_odd, k_l_odd, b_l_odd⟩ := D_l_odd
  obtain ⟨f_l_right, fd_l_right, G_l_right, g_l_right, k_l_right, b_l_right⟩ := D_l_right
  obtain ⟨f_l_turned_at, fd_l_turned_at, G_l_turned_at, g_l_turned_at, k_l_turned_at, b_l_turned_at⟩ := D_l_turned_at
  refine F.ok sc_law (fun vs H Q E h => ?_) (fun cdv A outer s H vs Q E hr h => ?_)
  · obtain ⟨sc, ns, rfl, _⟩ := h
    rfl
  · obtain ⟨sc, ns, rfl, hS, few63, q⟩ := h
    refine ⟨_, (pss_cons (ps_set (i := 1) sc_law.nd rfl (.inl rfl) (pe_call G_l_deck (hr.mono (by decide)) (by rfl) g_l_deck k_l_deck b_l_deck .nil pass0 (pa_cons (pv 0) pa_nil)))
      (pss_cons (ps_for PassesOwn.never rfl (pi_range1 (by rfl) M.range (pa_cons pe_int pa_nil)) (pg_name (i := 2) sc_law.nd rfl (.inl rfl))
        (pss_cons (ps_set (i := 3) sc_law.nd rfl (.inl rfl) (pe_callTy call_int1 (by rfl) M.int (by decide +kernel) (pa_cons (pe_cmpR op_eq (pe_call G_l_take (hr.mono (by decide)) (by rfl) g_l_take k_l_take b_l_take .nil pass0 (pa_cons (pv 1) (pa_cons pe_int pa_nil))) pe_int (nomark _)) pa_nil)))
        (pss_cons (ps_set (i := 4) sc_law.nd rfl (.inl rfl) (pe_ix ix_list (pe_lst (pa_cons (pe_op op_add pe_int (pe_call G_l_take (hr.mono (by decide)) (by rfl) g_l_take k_l_take b_l_take .nil pass0 (pa_cons (pv 1) (pa_cons pe_int pa_nil)))) (pa_cons (pe_op op_add pe_int (pe_call G_l_take (hr.mono (by decide)) (by rfl) g_l_take k_l_take b_l_take .nil pass0 (pa_cons (pv 1) (pa_cons pe_int pa_nil)))) pa_nil))) (pv 3) (fun _ _ => rfl)))
        (pss_cons (ps_asg (pe_call G_l_grown (hr.mono (by decide)) (by rfl) g_l_grown k_l_grown b_l_grown .nil pass0 (pa_cons (pv 1) (pa_cons (pv 4) (pa_cons (pe_ix ix_list (pe_lst (pa_cons (pe_call G_l_take (hr.mono (by decide)) (by rfl) g_l_take k_l_take b_l_take .nil pass0 (pa_cons (pv 1) (pa_cons pe_int pa_nil))) (pa_cons (pe_op op_add pe_int (pe_call G_l_take (hr.mono (by decide)) (by rfl) g_l_take k_l_take b_l_take .nil pass0 (pa_cons (pv 1) (pa_cons pe_int pa_nil)))) pa_nil))) (pv 3) (fun _ _ => rfl)) pa_nil)))) (pg_tup rfl (pgs_cons (pg_name (i := 5) sc_law.nd rfl (.inl rfl)) (pgs_cons (pg_name (i := 6) sc_law.nd rfl (.inl rfl)) pgs_nil))))
        (Evl.pss_cut (ps_if (pt_cmpR op_eq (pe_call G_l_take (hr.mono (by decide)) (by rfl) g_l_take k_l_take b_l_take .nil pass0 (pa_cons (pv 1) (pa_cons pe_int pa_nil))) pe_int (nomark _))
          (pss_one (ps_expr (pe_call G_l_crossed (hr.mono (by decide)) (by rfl) g_l_crossed k_l_crossed b_l_crossed .nil pass0 (pa_cons (pv 1) (pa_cons (pv 6) pa_nil)))))
          pss_nil)
        (pss_cons (ps_set (i := 7) sc_law.nd rfl (.inl rfl) (pe_call G_l_kinds (hr.mono (by decide)) (by rfl) g_l_kinds k_l_kinds b_l_kinds .nil pass0 (pa_cons (pv 1) (pa_cons (pe_call G_l_web (hr.mono (by decide)) (by rfl) g_l_web k_l_web b_l_web .nil pass0 (pa_cons (pv 1) (pa_cons (pv 5) (pa_cons (pe_callB call_len_seq (by rfl) M.len PySem.boot_len (pa_cons (pv 6) pa_nil)) pa_nil)))) pa_nil))))
        (pss_cons (ps_set (i := 8) sc_law.nd rfl (.inl rfl) (pe_call G_l_turned (hr.mono (by decide)) (by rfl) g_l_turned k_l_turned b_l_turned .nil pass0 (pa_cons (pv 1) (pa_cons (pv 6) pa_nil))))
        (pss_cons (ps_set (i := 9) sc_law.nd rfl (.inl rfl) (pe_call G_l_odd (hr.mono (by decide)) (by rfl) g_l_odd k_l_odd b_l_odd .nil pass0 (pa_cons (pv 7) (pa_cons (pv 8) pa_nil))))
        (pss_cons (ps_if (pt_not (pt_val (pe_call G_l_right (hr.mono (by decide)) (by rfl) g_l_right k_l_right b_l_right .nil pass0 (pa_cons (pv 7) (pa_cons (pv 8) (pa_cons (pv 9) pa_nil))))))
          (pss_one (ps_ret pe_bl))
          pss_nil)
        (pss_one (ps_if (pt_not (pt_val (pe_call G_l_right (hr.mono (by decide)) (by rfl) g_l_right k_l_right b_l_right .nil pass0 (pa_cons (pe_call G_l_turned_at (hr.mono (by decide)) (by rfl) g_l_turned_at k_l_turned_at b_l_turned_at .nil pass0 (pa_cons (pv 7) (pa_cons (pe_call G_l_take (hr.mono (by decide)) (by rfl) g_l_take k_l_take b_l_take .nil pass0 (pa_cons (pv 1) (pa_cons (pe_ix ix_tup (pv 7) pe_int (fun _ _ => rfl)) pa_nil))) pa_nil))) (pa_cons (pv 8) (pa_cons (pv 9) pa_nil))))))
          (pss_one (ps_ret pe_bl))
          pss_nil)))))))))))
      (pss_one (ps_ret pe_bl)))), ?_⟩
    refine ⟨.ref sc, rfl, sc, ns, rfl, hS, few63, fun d H1 s1 nd D1 => ?_⟩
    refine ⟨3, rfl, by decide, by decide, ?_⟩
    refine for_range (lo := 0) (n := 3) (fun i σ' H' => ∃ y2 y3 y4 y5 y6 y7 y8 y9 : Option V, σ' = [some (.ref sc), some (.ref d), y2, y3, y4, y5, y6, y7, y8, y9] ∧ FDk H' d) ⟨_, _, _, _, _, _, _, _, rfl, D1⟩ ?_ ?_
    · clear D1 s1 nd
      rintro i σ' H2 hi ⟨y2, y3, y4, y5, y6, y7, y8, y9, rfl, D2⟩
      refine ⟨.ref d, rfl, d, 8, rfl, D2, by decide, by decide, fun v H3 v0 v1 D3 K3 => ⟨rfl, .inr ⟨_, rfl, ?_⟩⟩⟩
      generalize decide (V.int v = V.int 5) = gr
      refine ⟨.ref d, rfl, d, 9, rfl, D3, by decide, by decide, fun a H4 a0 a1 D4 K4 => ⟨_, _, rfl, rfl, .ref d, rfl, d, 31, rfl, D4, by decide, by decide, fun b H5 b0 b1 D5 K5 => ⟨_, _, rfl, rfl, by show 2 ≤ sizeLine; decide, fun p np => ?_⟩⟩⟩
      obtain ⟨m, em, m0, m1⟩ : ∃ m : Int, (if gr = true then V.int (10 + b) else V.int (1 + a)) = V.int m ∧ 1 ≤ m ∧ m ≤ 50 := by
        cases gr
        · exact ⟨1 + a, rfl, by omega, by omega⟩
        · exact ⟨10 + b, rfl, by omega, by omega⟩
      refine ⟨.int (if gr = true then 1 else 0), rfl, p, _, _, .int m, rfl, rfl, SqL.of upd_same, (by rw [← em]; cases gr <;> rfl), ?_⟩
      have D6 := D5.same (same_new (o := .lst [.int (1 + a), .int (10 + b)]) np)
      generalize upd H5 p (.lst [.int (1 + a), .int (10 + b)]) = H6 at D6
      clear D3 K3 D4 K4 D5 K5 np
      refine ⟨.ref d, rfl, .int m, rfl, .ref d, rfl, d, 16, rfl, D6, by decide, by decide, fun a' H7 a0' a1' D7 K7 => ⟨.ref d, rfl, d, 41, rfl, D7, by decide, by decide, fun b' H8 b0' b1' D8 K8 => ⟨_, _, rfl, rfl, by show 2 ≤ sizeLine; decide, fun p' np' => ?_⟩⟩⟩
      obtain ⟨y, ey, z0, z1⟩ : ∃ y : Int, (if gr = true then V.int (20 + b') else V.int a') = V.int y ∧ 0 ≤ y ∧ y ≤ 100 := by
        cases gr
        · exact ⟨a', rfl, by omega, by omega⟩
        · exact ⟨20 + b', rfl, by omega, by omega⟩
      have D9 := D8.same (same_new (o := .lst [.int a', .int (20 + b')]) np')
      refine ⟨.int (if gr = true then 1 else 0), rfl, p', _, _, .int y, rfl, rfl, SqL.of upd_same, (by rw [← ey]; cases gr <;> rfl), d, m, y, rfl, D9, m0, m1, z0, z1, fun r T O us es A rs H10 hr g od r1 r50 le => ?_⟩
      generalize upd H8 p' (.lst [.int a', .int (20 + b')]) = H9 at D9 g
      refine ⟨r, _, rfl, SqT.of hr, rfl, _, _, rfl, _, _, rfl, rfl, ?_⟩
      refine ⟨fun σ' H' => ∃ (y3 y4 y7 y8 y9 : Option V) (rs' : List (List Int)), σ' = [some (.ref sc), some (.ref d), some (.int (0 + (i : Nat))), y3, y4, some (.ref T), some (.ref O), y7, y8, y9] ∧ Grw H9 d T O H' us es A rs' ∧ Ord rs' es ∧ rs'.length = rs.length, ?_, ?_⟩
      · refine ⟨.ref d, rfl, d, 3, rfl, g.dk, by decide, by decide, fun w H11 w0 w1 D11 K11 => ⟨rfl, _, rfl, ?_⟩⟩
        have g11 := g.take K11 D11
        refine ite2 (fun _ => ?_) (fun _ => ⟨_, _, _, _, _, rs, rfl, g11, od, rfl⟩)
        exact ⟨.ref d, rfl, .ref O, rfl, H9, d, T, O, us, es, A, rs, rfl, g11, od, by omega, by omega, fun rs' H' od' l g' => ⟨_, _, _, _, _, rs', rfl, g', od', l⟩⟩
      rintro σ' H11 ⟨y3, y4, y7, y8, y9, rs', rfl, g11, od', l'⟩
      refine ⟨.ref d, rfl, .ref d, rfl, .ref T, rfl, .ref O, rfl, O, _, rfl, .inl (SqL.of g11.hO), H9, d, T, O, us, es, A, rs', _, rfl, g11, by omega, fun v' ts0 H12 hW tw0 g12 K12 => ?_⟩
      have lt0 := tw0.1
      refine ⟨d, v', _, ts0, rfl, hW, g12.dk, by omega, fun wv ts H13 hW13 se D13 K13 => ?_⟩
      have tw := tw0.kinds se
      have g13 := g12.take K13 D13
      have lt1 := tw.1
      clear hW K12 tw0 lt0 se
      refine ⟨.ref d, rfl, .ref O, rfl, H9, d, T, O, us, es, A, rs', rfl, g13, od', by omega, by omega, fun o vs' rs2 H14 ho hp2 od2 l2 g14 K14 => ?_⟩
      have hW14 := hW13.tk (g13.dk.tk K14)
      refine ⟨wv, rfl, .ref o, rfl, wv, _, ts, o, vs', rs2, es, rfl, hW14, ho, hp2, od2, tw, by omega, le, fun dr S H15 s15 pS oS hdr => ?_⟩
      have hW15 := hW14.tk (Same.tk s15)
      have ho15 := s15 _ _ ho
      have hp15 : Paired (IntsV H15) vs' rs2 := Paired.mono (fun _ _ x => x.tk (Same.tk s15)) hp2
      have g15 := g14.same s15
      refine ⟨wv, rfl, .ref o, rfl, .ref dr, rfl, wv, _, ts, o, dr, vs', rs2, es, S, rfl, hW15, ho15, hp15, od2, tw, by omega, le, pS, oS, hdr, fun H16 s16 => ⟨_, rfl, ?_⟩⟩
      have g16 := g15.same s16
      obtain ⟨wa, wb, ws, rfl, hwa, hwb, hp⟩ := id (hW15.tk (Same.tk s16))
      have lA := g16.rw'.len
      refine ⟨.ref wa, rfl, .ref d, rfl, .ref wa, rfl, wa, _, 0, _, rfl, rfl, SqT.of hwa, rfl, d, _, rfl, g16.dk, by rw [List.length_map]; omega, by rw [List.length_map]; omega, fun pl H17 p0 p1 D17 K17 => ?_⟩
      have tk17 := g16.dk.tk K17
      have hW17 : WebAt H17 (.ref wa) _ ts := WebAt.tk tk17 ⟨wa, wb, ws, rfl, hwa, hwb, hp⟩
      have g17 := g16.take K17 D17
      refine ⟨.ref wa, _, ts, pl, rfl, hW17, by omega, fun w2 H18 s18 hW18 => ?_⟩
      have tk18 := ((Same.tk s16).trans tk17).trans (Same.tk s18)
      refine ⟨.ref o, rfl, .ref dr, rfl, w2, _, ts.map (flipAt pl), o, dr, vs', rs2, es, S, rfl, hW18, tk18 _ _ ho15, Paired.mono (fun _ _ x => x.tk tk18) hp15, od2, tw.flip pl, by omega, le, pS, oS, ?_, fun H19 s19 => ⟨_, rfl, ?_⟩⟩
      · rw [odd_flip od2 tw pl pS]
        exact tk18 _ _ hdr
      · exact ⟨_, _, _, _, _, _, _, _, rfl, (g17.same s18).dk.same s19⟩
    · rintro σ' H2 ⟨y2, y3, y4, y5, y6, y7, y8, y9, rfl, D2⟩
      exact q _
end
/-! ### the end of a law whose defs hold generator expressions: their tables are empty behind the top -/
theorem walk_tabs {l : PySem.W.OpenLaw} {n k : Nat} {q : Program} {loose : List Str} {XP : (Str → Option Value) → Heap → Prop} {YP : World → Heap → Prop} {d : DefRec} {K : Params → PySem.W.Frag} {x : Str}
    (hn : l.most = some n) (hn2 : n ≤ sizeLine) (hdf : d.params.defaults = []) (hr : Room k callerA) (hY : ∀ (w : World) (h : Heap), YP w h → (K w.params).In h)
    (F : ∀ (w : World) (mg : Str → Option Value) (fa : Addr) (h : Heap), (K w.params).In h → h.Ns mainGlobals mg → mg d.name = some (.ref fa) →
      (∀ (y : Str) (fy : Addr), ((recsOf q).any fun e => e.name == y) = true → mg y = some (.ref fy) → LamX.OwnTab (K w.params) fy h) → LamX.LawAtS l w (K w.params) CX0 k n x mg fa h) :
    PySem.W.WalkO q loose XP YP l.row.toRowW d [] (fun f vs => PySem.call f vs) := by
  refine Att.attach_callB hn hdf fun w s₀ s₁ mg mb fa o pm cd doc a vs ns G Y ho hd hcd hmg hobj hints hlen hbits hg => ?_
  have KX := hY w _ Y
  have tabs : ∀ (y : Str) (fy : Addr), ((recsOf q).any fun e => e.name == y) = true → mg y = some (.ref fy) → LamX.OwnTab (K w.params) fy s₁.heap := fun y fy hy hm c P o1 fd1 e dd vs1 sl k1 k2 k3 k4 k5 => by
    obtain ⟨dL, hmem, hnm⟩ := List.any_eq_true.mp hy
    have hnm : dL.name = y := beq_iff_eq.mp hnm
    obtain ⟨a', o', fd', c', P', h1, h2, h3, h4, h5, h6⟩ := G.T.tab dL hmem
    rw [hnm, hm] at h1
    cases h1
    rw [KX _ _ k1] at h2
    cases h2
    rw [k2] at h3
    cases h3
    rw [k3] at h4
    cases h4
    obtain ⟨⟨oc, vc, e1, _, e3, e4⟩, hP⟩ := h6
    rw [KX _ _ k4] at e1
    cases e1
    cases e3
    rw [k5] at e4
    cases e4
    exact hP
  obtain ⟨fd, cs, sp, hT, nT, C, hb, hsp, hF⟩ := F w mg fa _ KX G.T.g hmg tabs
  exact LamX.law_callTs KX G.T.g G.T.b G.T.builtins G.T.nolimit hg hT nT C G.T.bmain hobj hints (Nat.le_trans hlen hn2) hr hF hb (fun H hH hS => hsp H a ns hlen hbits hH hS) fun H e s' z => z
/-- where a def stands, and where its code object does -/
structure At (K : PySem.W.Frag) (x : Str) (st : Stmt) (f : Addr) : Prop where
  ns : PySem.W.nsIn K mainGlobals x = some (some (.ref f))
  ex : ∃ (oc : Value) (od : Option Addr) (kV doc pm : Value) (an : Option Addr) (cdv ct : Value) (osl : Array (Option Value)),
    K.lookup f = some ⟨oc, od, .func (PySem.W.fnOf x x (defArgs st) (defBody st) (defScope st) .none kV doc pm an cdv ct), osl⟩ ∧ PySem.W.codeIn K cdv x = true
  kp : PySem.W.keepIn K (.ref f) = true
theorem at_mk {K : PySem.W.Frag} {x : Str} {st : Stmt} {f : Addr} {oc : Value} {od an : Option Addr} {osl : Array (Option Value)} {kV doc pm cdv ct : Value} (a : PySem.W.nsIn K mainGlobals x = some (some (.ref f)))
    (l : K.lookup f = some ⟨oc, od, .func (PySem.W.fnOf x x (defArgs st) (defBody st) (defScope st) .none kV doc pm an cdv ct), osl⟩) (c : PySem.W.codeIn K cdv x = true) (k : PySem.W.keepIn K (.ref f) = true) : At K x st f := ⟨a, ⟨oc, od, kV, doc, pm, an, cdv, ct, osl, l, c⟩, k⟩
theorem At.fn {K : PySem.W.Frag} {x : Str} {st : Stmt} {f : Addr} (h : At K x st f) : ∃ fd, Fun K x x st f fd := by
  obtain ⟨oc, od, kV, doc, pm, an, cdv, ct, osl, l, c⟩ := h.ex
  exact ⟨_, fun_mk l c h.kp⟩
structure AtC (K : PySem.W.Frag) (x : Str) (st : Stmt) (f c Pt : Addr) : Prop where
  ns : PySem.W.nsIn K mainGlobals x = some (some (.ref f))
  ex : ∃ (oc : Value) (od : Option Addr) (kV doc pm : Value) (an : Option Addr) (ct : Value) (osl : Array (Option Value)),
    K.lookup f = some ⟨oc, od, .func (PySem.W.fnOf x x (defArgs st) (defBody st) (defScope st) .none kV doc pm an (.ref c) ct), osl⟩ ∧ PySem.W.codeIn K (.ref c) x = true
  kp : PySem.W.keepIn K (.ref f) = true
  co : ∃ (dd : Option Addr) (vs : Array Value) (sl : Array (Option Value)) (file : Str) (tf : Tok) (flags : Int) (tg : Tok) (inF : Bool) (text : Int) (tt : Tok), K.lookup c = some ⟨.type "code", dd, .fields vs, sl⟩ ∧ vs[11]? = some (.ref Pt) ∧ vs.getD 11 .none = .ref Pt ∧ vs.getD 18 .none = .str file tf ∧
    vs.getD 7 .none = .int flags tg ∧ vs.getD 9 .none = .bool inF ∧ vs.getD 10 .none = .int text tt ∧ c ≠ Pt
  nP : K.lookup Pt = none
theorem atC_mk {K : PySem.W.Frag} {x : Str} {st : Stmt} {f c Pt : Addr} {oc : Value} {od an dd : Option Addr} {osl sl : Array (Option Value)} {kV doc pm ct : Value} {vs : Array Value} {file : Str} {tf tg tt : Tok} {flags text : Int} {inF : Bool} (a : PySem.W.nsIn K mainGlobals x = some (some (.ref f)))
    (l : K.lookup f = some ⟨oc, od, .func (PySem.W.fnOf x x (defArgs st) (defBody st) (defScope st) .none kV doc pm an (.ref c) ct), osl⟩) (cc : PySem.W.codeIn K (.ref c) x = true) (k : PySem.W.keepIn K (.ref f) = true)
    (lc : K.lookup c = some ⟨.type "code", dd, .fields vs, sl⟩) (v11 : vs[11]? = some (.ref Pt)) (w11 : vs.getD 11 .none = .ref Pt) (v18 : vs.getD 18 .none = .str file tf) (v7 : vs.getD 7 .none = .int flags tg) (v9 : vs.getD 9 .none = .bool inF) (v10 : vs.getD 10 .none = .int text tt) (ne : c ≠ Pt)
    (nP : K.lookup Pt = none) : AtC K x st f c Pt := ⟨a, ⟨oc, od, kV, doc, pm, an, ct, osl, l, cc⟩, k, ⟨dd, vs, sl, file, tf, flags, tg, inF, text, tt, lc, v11, w11, v18, v7, v9, v10, ne⟩, nP⟩
theorem AtC.hd {K : PySem.W.Frag} {h : Heap} {x : Str} {st : Stmt} {f c Pt : Addr} (a : AtC K x st f c Pt) (X : K.In h) : PySem.W.CodeHd h c Pt := by
  obtain ⟨dd, vs, sl, file, tf, flags, tg, inF, text, tt, lc, v11, w11, v18, v7, v9, v10, ne⟩ := a.co
  exact ⟨_, vs, file, tf, flags, tg, inF, text, tt, X _ _ lc, rfl, rfl, v11, w11, v18, v7, v9, v10, ne⟩
theorem AtC.tab {K : PySem.W.Frag} {h : Heap} {x : Str} {st : Stmt} {f c Pt : Addr} (a : AtC K x st f c Pt) (o : LamX.OwnTab K f h) : h.get? Pt = some { cls := .none, data := .fields #[] } := by
  obtain ⟨oc, od, kV, doc, pm, an, ct, osl, l, cc⟩ := a.ex
  obtain ⟨dd, vs, sl, file, tf, flags, tg, inF, text, tt, lc, v11, w11, v18, v7, v9, v10, ne⟩ := a.co
  exact o c Pt _ _ _ _ _ _ l rfl rfl lc v11
section
variable {P : Program} {w : World} {K : PySem.W.Frag} {mg : Str → Option Value} {base : Heap}
theorem Df.of {x : Str} {st : Stmt} {f : Addr} {fd : FuncData} {k : Nat} {ps : List Str} {sp : Sp} (g : mg x = some (.ref f)) (F : Fun K x x st f fd) (G : FnOk P w K mg base CX0 k f fd ps sp)
    (h : ∀ (kV doc pm : Value) (an : Option Addr) (cdv ct : Value) (us : List Value), us.length = ps.length → bindArgs (PySem.W.fnOf x x (defArgs st) (defBody st) (defScope st) .none kV doc pm an cdv ct) ⟨us, []⟩ = pure (ps.zip us)) : Df P w K mg base k x ps sp :=
  ⟨f, fd, G, g, F.kp, F.binds h⟩
end
/-! ### what the top has written -/
section
variable {P : Program} {w : World} {K : PySem.W.Frag} {mg : Str → Option Value} {base : Heap}
set_option maxHeartbeats 0 in
theorem law_at {l : PySem.W.OpenLaw} {w : World} {K : PySem.W.Frag} {h : Heap} {mg : Str → Option Value} {fa f0 f1 f2 f3 f4 f5 f6 f7 f8 f9 f10 f11 f12 f13 f14 f15 f16 f17 f18 f19  : Addr} (X : K.In h) (G : h.Ns mainGlobals mg) (hfa : mg "law" = some (.ref fa))
    
    (a0 : At K "steps_behind" s_steps_behind f0)
    (a1 : At K "face_from" s_face_from f1)
    (a2 : At K "faces_of" s_faces_of f2)
    (a3 : At K "odd_among" s_odd_among f3)
    (a4 : At K "odd_faces" s_odd_faces f4)
    (a5 : At K "_law_mixed" s_l_mixed f5)
    (a6 : At K "_law_deck" s_l_deck f6)
    (a7 : At K "_law_take" s_l_take f7)
    (a8 : At K "_law_corners" s_l_corners f8)
    (a9 : At K "_law_grown" s_l_grown f9)
    (a10 : At K "_law_turned" s_l_turned f10)
    (a11 : At K "_law_web" s_l_web f11)
    (a12 : At K "_law_crossed" s_l_crossed f12)
    (a13 : At K "_law_behind" s_l_behind f13)
    (a14 : At K "_law_due" s_l_due f14)
    (a15 : At K "_law_kinds" s_l_kinds f15)
    (a16 : At K "_law_turned_at" s_l_turned_at f16)
    (a17 : At K "_law_odd" s_l_odd f17)
    (a18 : At K "_law_right" s_l_right f18)
    (a19 : At K "law" s_law f19)
    (z0 : PySem.W.nsIn K mainGlobals "len" = some none)
    (z1 : PySem.W.nsIn K mainGlobals "int" = some none)
    (z2 : PySem.W.nsIn K mainGlobals "bool" = some none)
    (z3 : PySem.W.nsIn K mainGlobals "str" = some none)
    (z4 : PySem.W.nsIn K mainGlobals "list" = some none)
    (z5 : PySem.W.nsIn K mainGlobals "tuple" = some none)
    (z6 : PySem.W.nsIn K mainGlobals "range" = some none)
    (z7 : PySem.W.nsIn K mainGlobals "isinstance" = some none)
    (z8 : PySem.W.nsIn K mainGlobals "sum" = some none)
    (z9 : PySem.W.nsIn K mainGlobals "enumerate" = some none)
    (z10 : PySem.W.nsIn K mainGlobals "sorted" = some none)
    (z11 : PySem.W.nsIn K mainGlobals "zip" = some none)
     :
    LamX.LawAtS l w K CX0 5 63 "_law_script" mg fa h := by
  have efa := hfa.symm.trans (PySem.W.mg_of X G a19.ns)
  cases efa
  have M : Free mg := ⟨PySem.W.mg_none_of X G z0, PySem.W.mg_none_of X G z1, PySem.W.mg_none_of X G z2, PySem.W.mg_none_of X G z3, PySem.W.mg_none_of X G z4, PySem.W.mg_none_of X G z5, PySem.W.mg_none_of X G z6, PySem.W.mg_none_of X G z7, PySem.W.mg_none_of X G z8⟩
  have m_enumerate := PySem.W.mg_none_of X G z9
  have m_sorted := PySem.W.mg_none_of X G z10
  have m_zip := PySem.W.mg_none_of X G z11
  obtain ⟨d0, F0⟩ := a0.fn
  obtain ⟨d1, F1⟩ := a1.fn
  obtain ⟨d2, F2⟩ := a2.fn
  obtain ⟨d3, F3⟩ := a3.fn
  obtain ⟨d4, F4⟩ := a4.fn
  obtain ⟨d5, F5⟩ := a5.fn
  obtain ⟨d6, F6⟩ := a6.fn
  obtain ⟨d7, F7⟩ := a7.fn
  obtain ⟨d8, F8⟩ := a8.fn
  obtain ⟨d9, F9⟩ := a9.fn
  obtain ⟨d10, F10⟩ := a10.fn
  obtain ⟨d11, F11⟩ := a11.fn
  obtain ⟨d12, F12⟩ := a12.fn
  obtain ⟨d13, F13⟩ := a13.fn
  obtain ⟨d14, F14⟩ := a14.fn
  obtain ⟨d15, F15⟩ := a15.fn
  obtain ⟨d16, F16⟩ := a16.fn
  obtain ⟨d17, F17⟩ := a17.fn
  obtain ⟨d18, F18⟩ := a18.fn
  obtain ⟨d19, F19⟩ := a19.fn
  have g0 := PySem.W.mg_of X G a0.ns
  have g1 := PySem.W.mg_of X G a1.ns
  have g2 := PySem.W.mg_of X G a2.ns
  have g3 := PySem.W.mg_of X G a3.ns
  have g4 := PySem.W.mg_of X G a4.ns
  have g5 := PySem.W.mg_of X G a5.ns
  have g6 := PySem.W.mg_of X G a6.ns
  have g7 := PySem.W.mg_of X G a7.ns
  have g8 := PySem.W.mg_of X G a8.ns
  have g9 := PySem.W.mg_of X G a9.ns
  have g10 := PySem.W.mg_of X G a10.ns
  have g11 := PySem.W.mg_of X G a11.ns
  have g12 := PySem.W.mg_of X G a12.ns
  have g13 := PySem.W.mg_of X G a13.ns
  have g14 := PySem.W.mg_of X G a14.ns
  have g15 := PySem.W.mg_of X G a15.ns
  have g16 := PySem.W.mg_of X G a16.ns
  have g17 := PySem.W.mg_of X G a17.ns
  have g18 := PySem.W.mg_of X G a18.ns
  have hb0 : ∀ (s : Shared) (u : Value), BindsTo s d19 ⟨[u], []⟩ [("_law_script", u)] := by
    obtain ⟨oc, od, kV, doc, pm, an, cdv, ct, osl, rfl, _⟩ := F19.ex
    exact fun s u => .of_eq rfl
  refine ⟨d19, [], spLaw K, (fun p hp => by simp at hp), (fun p hp => by simp at hp), (fun p hp => by simp at hp), hb0, fun H a ns hl _ hT hS => ⟨a, ns, rfl, hS, hl, fun _ => rfl⟩, fun base KB GB TB => ?_⟩
  have D0 : Df l.prog w K mg base 1 "steps_behind" ["web", "orders"] spSteps := .of g0 F0 (ok_steps_behind F0 m_enumerate m_zip) fun _ _ _ _ _ _ us hl => match us, hl with | [_, _], _ => rfl
  have D1 : Df l.prog w K mg base 1 "face_from" ["first", "behind"] spFace := .of g1 F1 (ok_face_from F1 M) fun _ _ _ _ _ _ us hl => match us, hl with | [_, _], _ => rfl
  have D2 : Df l.prog w K mg base 2 "faces_of" ["web", "orders"] spFaces := .of g2 F2 (ok_faces_of F2 M m_sorted D0 D1) fun _ _ _ _ _ _ us hl => match us, hl with | [_, _], _ => rfl
  have D3 : Df l.prog w K mg base 1 "odd_among" ["web", "faces"] spOddAmong := .of g3 F3 (ok_odd_among F3 M m_enumerate) fun _ _ _ _ _ _ us hl => match us, hl with | [_, _], _ => rfl
  have D4 : Df l.prog w K mg base 3 "odd_faces" ["web", "orders"] spOddF := .of g4 F4 (ok_odd_faces F4 D2 D3) fun _ _ _ _ _ _ us hl => match us, hl with | [_, _], _ => rfl
  have D5 : Df l.prog w K mg base 1 "_law_mixed" ["_law_number"] spMixed := .of g5 F5 (ok_l_mixed F5) fun _ _ _ _ _ _ us hl => match us, hl with | [_], _ => rfl
  have D6 : Df l.prog w K mg base 2 "_law_deck" ["_law_script"] (spDeckF K) := .of g6 F6 (ok_l_deck F6 M D5) fun _ _ _ _ _ _ us hl => match us, hl with | [_], _ => rfl
  have D7 : Df l.prog w K mg base 2 "_law_take" ["_law_deck_here", "_law_most"] spTake := .of g7 F7 (ok_l_take F7 D5) fun _ _ _ _ _ _ us hl => match us, hl with | [_, _], _ => rfl
  have D8 : Df l.prog w K mg base 1 "_law_corners" ["_law_ties", "_law_orders", "_law_place", "_law_at"] spCorners := .of g8 F8 (ok_l_corners F8 M) fun _ _ _ _ _ _ us hl => match us, hl with | [_, _, _, _], _ => rfl
  have D9 : Df l.prog w K mg base 3 "_law_grown" ["_law_deck_here", "_law_most", "_law_many_ties"] spGrown := .of g9 F9 (ok_l_grown F9 M D7 D8) fun _ _ _ _ _ _ us hl => match us, hl with | [_, _, _], _ => rfl
  have D10 : Df l.prog w K mg base 3 "_law_turned" ["_law_deck_here", "_law_orders"] spTurned := .of g10 F10 (ok_l_turned F10 M D7) fun _ _ _ _ _ _ us hl => match us, hl with | [_, _], _ => rfl
  have D11 : Df l.prog w K mg base 3 "_law_web" ["_law_deck_here", "_law_ties", "_law_places"] spWebF := .of g11 F11 (ok_l_web F11 M D7) fun _ _ _ _ _ _ us hl => match us, hl with | [_, _, _], _ => rfl
  have D12 : Df l.prog w K mg base 3 "_law_crossed" ["_law_deck_here", "_law_orders"] spCrossed := .of g12 F12 (ok_l_crossed F12 M D7) fun _ _ _ _ _ _ us hl => match us, hl with | [_, _], _ => rfl
  have D13 : Df l.prog w K mg base 1 "_law_behind" ["_law_web_here", "_law_orders", "_law_step"] spBehindL := .of g13 F13 (ok_l_behind F13 M) fun _ _ _ _ _ _ us hl => match us, hl with | [_, _, _], _ => rfl
  have D14 : Df l.prog w K mg base 2 "_law_due" ["_law_web_here", "_law_orders"] spDueF := .of g14 F14 (ok_l_due F14 M m_enumerate m_sorted D13) fun _ _ _ _ _ _ us hl => match us, hl with | [_, _], _ => rfl
  have D15 : Df l.prog w K mg base 3 "_law_kinds" ["_law_deck_here", "_law_web_here"] spKinds := .of g15 F15 (ok_l_kinds F15 M D7) fun _ _ _ _ _ _ us hl => match us, hl with | [_, _], _ => rfl
  have D16 : Df l.prog w K mg base 1 "_law_turned_at" ["_law_web_here", "_law_place"] spTurnAt := .of g16 F16 (ok_l_turned_at F16 M) fun _ _ _ _ _ _ us hl => match us, hl with | [_, _], _ => rfl
  have D17 : Df l.prog w K mg base 3 "_law_odd" ["_law_web_here", "_law_orders"] spOddF := .of g17 F17 (ok_l_odd F17 M m_enumerate D14) fun _ _ _ _ _ _ us hl => match us, hl with | [_, _], _ => rfl
  have D18 : Df l.prog w K mg base 4 "_law_right" ["_law_web_here", "_law_orders", "_law_due_here"] spRight54 := .of g18 F18 (ok_l_right F18 M D4) fun _ _ _ _ _ _ us hl => match us, hl with | [_, _, _], _ => rfl
  exact ok_law F19 M D6 D7 D9 D12 D11 D15 D10 D17 D18 D16
end
end FF
open PySem PySem.W PyProof.Rows
set_option maxRecDepth 100000 in
set_option maxHeartbeats 0 in
theorem PySem.Challenge.cw_friendfoe_k54_odd_faces_told_holds : PySem.Challenge.rw_friendfoe_k54_odd_faces_told.Holds := by
  w_on; o_law; k_head; (case hw => w_witness2)
  k_fill
  refine FF.walk_tabs (l := PySem.Challenge.rw_friendfoe_k54_odd_faces_told) (n := 63) (k := 5) (x := "_law_script") rfl (by decide) rfl ⟨rfl, by decide, by decide⟩ (fun w h Y => PySem.W.kIn_of Y) ?F
  case F =>
    intro w mg fa h KX G hmg tabs
    refine' FF.law_at KX G hmg  ?a0 ?a1 ?a2 ?a3 ?a4 ?a5 ?a6 ?a7 ?a8 ?a9 ?a10 ?a11 ?a12 ?a13 ?a14 ?a15 ?a16 ?a17 ?a18 ?a19 ?z0 ?z1 ?z2 ?z3 ?z4 ?z5 ?z6 ?z7 ?z8 ?z9 ?z10 ?z11 
    (case a0 => refine' FF.at_mk ?p1 ?p2 ?p3 ?p4; (case p1 => k_is); (case p2 => k_is); (case p3 => k_is); (case p4 => k_is))
    (case a1 => refine' FF.at_mk ?p1 ?p2 ?p3 ?p4; (case p1 => k_is); (case p2 => k_is); (case p3 => k_is); (case p4 => k_is))
    (case a2 => refine' FF.at_mk ?p1 ?p2 ?p3 ?p4; (case p1 => k_is); (case p2 => k_is); (case p3 => k_is); (case p4 => k_is))
    (case a3 => refine' FF.at_mk ?p1 ?p2 ?p3 ?p4; (case p1 => k_is); (case p2 => k_is); (case p3 => k_is); (case p4 => k_is))
    (case a4 => refine' FF.at_mk ?p1 ?p2 ?p3 ?p4; (case p1 => k_is); (case p2 => k_is); (case p3 => k_is); (case p4 => k_is))
    (case a5 => refine' FF.at_mk ?p1 ?p2 ?p3 ?p4; (case p1 => k_is); (case p2 => k_is); (case p3 => k_is); (case p4 => k_is))
    (case a6 => refine' FF.at_mk ?p1 ?p2 ?p3 ?p4; (case p1 => k_is); (case p2 => k_is); (case p3 => k_is); (case p4 => k_is))
    (case a7 => refine' FF.at_mk ?p1 ?p2 ?p3 ?p4; (case p1 => k_is); (case p2 => k_is); (case p3 => k_is); (case p4 => k_is))
    (case a8 => refine' FF.at_mk ?p1 ?p2 ?p3 ?p4; (case p1 => k_is); (case p2 => k_is); (case p3 => k_is); (case p4 => k_is))
    (case a9 => refine' FF.at_mk ?p1 ?p2 ?p3 ?p4; (case p1 => k_is); (case p2 => k_is); (case p3 => k_is); (case p4 => k_is))
    (case a10 => refine' FF.at_mk ?p1 ?p2 ?p3 ?p4; (case p1 => k_is); (case p2 => k_is); (case p3 => k_is); (case p4 => k_is))
    (case a11 => refine' FF.at_mk ?p1 ?p2 ?p3 ?p4; (case p1 => k_is); (case p2 => k_is); (case p3 => k_is); (case p4 => k_is))
    (case a12 => refine' FF.at_mk ?p1 ?p2 ?p3 ?p4; (case p1 => k_is); (case p2 => k_is); (case p3 => k_is); (case p4 => k_is))
    (case a13 => refine' FF.at_mk ?p1 ?p2 ?p3 ?p4; (case p1 => k_is); (case p2 => k_is); (case p3 => k_is); (case p4 => k_is))
    (case a14 => refine' FF.at_mk ?p1 ?p2 ?p3 ?p4; (case p1 => k_is); (case p2 => k_is); (case p3 => k_is); (case p4 => k_is))
    (case a15 => refine' FF.at_mk ?p1 ?p2 ?p3 ?p4; (case p1 => k_is); (case p2 => k_is); (case p3 => k_is); (case p4 => k_is))
    (case a16 => refine' FF.at_mk ?p1 ?p2 ?p3 ?p4; (case p1 => k_is); (case p2 => k_is); (case p3 => k_is); (case p4 => k_is))
    (case a17 => refine' FF.at_mk ?p1 ?p2 ?p3 ?p4; (case p1 => k_is); (case p2 => k_is); (case p3 => k_is); (case p4 => k_is))
    (case a18 => refine' FF.at_mk ?p1 ?p2 ?p3 ?p4; (case p1 => k_is); (case p2 => k_is); (case p3 => k_is); (case p4 => k_is))
    (case a19 => refine' FF.at_mk ?p1 ?p2 ?p3 ?p4; (case p1 => k_is); (case p2 => k_is); (case p3 => k_is); (case p4 => k_is))
    (case z0 => k_is)
    (case z1 => k_is)
    (case z2 => k_is)
    (case z3 => k_is)
    (case z4 => k_is)
    (case z5 => k_is)
    (case z6 => k_is)
    (case z7 => k_is)
    (case z8 => k_is)
    (case z9 => k_is)
    (case z10 => k_is)
    (case z11 => k_is)
