import PyProof.Rows.All
import Wide.All
import OpenK.AllK
import Wide.FinOn
import HandS.ForMost
import HandS.IsInst
import HandS.TupAny
import HandS.TupLe
import HandS.Wide
import HandS.Style
import HandS.SortInts
import HandS.Conv
import HandS.More
import HandS.EndTab
import HandS.EndOwn
import HandS.AnyAll
import HandS.GenOver
import HandS.Evl
import HandS.Walk
import HandS.NoneIn
import HandS.Zip
import HandS.DictComp
import HandS.SetFor
import KE.GoesEnum
import HandS.TupMul
import HandS.Strs
import KE.DataMinMax
import HandS.ForExc
import HandS.ExcIs
import HandS.SetKeys
import KE.DatumOrd
import HandS.Remove
import HandS.SortRule
import KE.KDictCopyH
import KE.KDictSum
import HandS.Defaults
import HandS.Star
import PySem.Challenge.RW_friendfoe_k88_whole_mends_put_together
set_option Elab.async false
set_option linter.all false
set_option maxRecDepth 100000
namespace FF
open PySem PySem.Spec PyProof.Rows L2
/-! ### heaps: what is kept -/
/-- all that is tracked, but at d and c, is as it was -/
def Kp (d c : Addr) (H H' : Hp) : Prop := ∀ b o, b ≠ d → b ≠ c → H b = some o → H' b = some o
theorem Kp.refl {d c : Addr} {H : Hp} : Kp d c H H := fun _ _ _ _ h => h
theorem Kp.trans {d c : Addr} {H H1 H2 : Hp} (a : Kp d c H H1) (b : Kp d c H1 H2) : Kp d c H H2 := fun x o h1 h2 h => b x o h1 h2 (a x o h1 h2 h)
theorem Kp.at_d {d c : Addr} {H : Hp} {o : HO} : Kp d c H (upd H d o) := fun b u h1 _ h => by rw [upd_ne h1]; exact h
theorem Kp.at_c {d c : Addr} {H : Hp} {o : HO} : Kp d c H (upd H c o) := fun b u _ h2 h => by rw [upd_ne h2]; exact h
theorem Kp.new {d c p : Addr} {H : Hp} {o : HO} (hp : H p = none) : Kp d c H (upd H p o) := fun b u _ _ h => by rw [upd_ne (ne_of_none h hp)]; exact h
theorem same_new {H : Hp} {p : Addr} {o : HO} (h : H p = none) : Same H (upd H p o) := fun b x e => by
  rw [upd_ne (ne_of_none e h)]
  exact e
theorem Same.kp {d c : Addr} {H H' : Hp} (s : Same H H') : Kp d c H H' := fun b o _ _ h => s b o h
/-! ### defs as they are called -/
def Df (P : Program) (w : World) (K : PySem.W.Frag) (mg : Str → Option Value) (base : Heap) (k : Nat) (x : Str) (ps : List Str) (sp : Sp) : Prop :=
  ∃ (f : Addr) (fd : FuncData), FnOk P w K mg base CX0 k f fd ps sp ∧ mg x = some (.ref f) ∧ PySem.W.keepIn K (.ref f) = true ∧ Binds K fd ps []
/-- built-in names that the module has not taken -/
structure Free (mg : Str → Option Value) : Prop where
  len : mg "len" = none
  int : mg "int" = none
  bool : mg "bool" = none
  str : mg "str" = none
  list : mg "list" = none
  tuple : mg "tuple" = none
  range : mg "range" = none
  isinstance : mg "isinstance" = none
  sum : mg "sum" = none
theorem mod_rng {a m : Int} (h : 0 < m) : 0 ≤ a % m ∧ a % m < m := ⟨Int.emod_nonneg a (by omega), Int.emod_lt_of_pos a h⟩
/-! ### the deck: a dict -/
def dkv (c : Addr) (n st : Int) : List (Key × V) := [(Sum.inr "cells", V.ref c), (Sum.inr "at", .int n), (Sum.inr "seed", .int st)]
structure Deck (H : Hp) (d c : Addr) : Prop where
  ex : ∃ (cells : List Int) (st n : Int), H d = some (.dK (dkv c n st)) ∧ H c = some (.lst (cells.map V.int)) ∧ cells.length ≤ 63 ∧ 0 ≤ n ∧ n ≤ cells.length ∧ 0 ≤ st ∧ st < 2147483647
theorem Deck.ne {H : Hp} {d c : Addr} (h : Deck H d c) : d ≠ c := by
  obtain ⟨cells, st, n, h1, h2, _⟩ := h
  exact ne_of h1 h2 (by intro z; cases z)
theorem Deck.same {H H' : Hp} {d c : Addr} (h : Deck H d c) (s : Same H H') : Deck H' d c := by
  obtain ⟨cells, st, n, h1, h2, h3⟩ := h
  exact ⟨cells, st, n, s _ _ h1, s _ _ h2, h3⟩
theorem dkv_at (c : Addr) (n st : Int) : valV (dkv c n st) (Sum.inr "at") = some (.int n) := rfl
theorem dkv_cells (c : Addr) (n st : Int) : valV (dkv c n st) (Sum.inr "cells") = some (.ref c) := rfl
theorem dkv_seed (c : Addr) (n st : Int) : valV (dkv c n st) (Sum.inr "seed") = some (.int st) := rfl
theorem dkv_putAt (c : Addr) (n st m : Int) : putK (dkv c n st) (Sum.inr "at") (.int m) = dkv c m st := rfl
theorem dkv_putSeed (c : Addr) (n st m : Int) : putK (dkv c n st) (Sum.inr "seed") (.int m) = dkv c n m := rfl
theorem dkv_new (c : Addr) (n st : Int) : mergeK [] (dkv c n st) = dkv c n st := rfl
/-- a draw below m: any number from 0 on, less than m -/
def spDraw : Sp := fun vs H Q _ => ∃ (d c : Addr) (m : Int), vs = [.ref d, .int m] ∧ Deck H d c ∧ 0 < m ∧ m.natAbs < 2 ^ 120 ∧
  ∀ v H', 0 ≤ v → v < m → Deck H' d c → Kp d c H H' → Q (.int v) H'
/-! ### {**d, k: v} -/
section
open Sem (wp)
variable {prog : Program} {w : World} {K : Type} [DecidableEq K] {knd : KeyKind prog w K} {A : Around} {E : Value → Shared → Prop} {s : Shared}
theorem wpAny_dictPut {d : Addr} {kvs : List (K × Value)} {k : K} {key v : Value} {Q : Unit → Shared → Prop} (hkey : knd.is k key = true) (hm : s.heap.DictOf knd d kvs)
    (hQ : ∀ h', h'.DictOf knd d (stored kvs k v) → Heap.SameBut d s.heap h' → Q () { s with heap := h' })
    (hsz : kvs.length ≤ sizeLine) :
    wpAny (model prog w) A (dictPut d (knd.hash k) key v) Q E s := by
  obtain ⟨o, es, ep, ho, hc, hd, hk, hp, hn⟩ := hm
  have hes : es.size ≤ sizeLine := by have e1 := hp.length; have e2 : es.toList.length = es.size := by simp
                                      omega
  unfold dictPut
  refine wpAny_bind (wpAny_dictFind_of hkey ho hd hk ?_)
  have hidx : (es.findIdx? fun e => knd.is k e.key) = kvs.findIdx? fun kv => decide (kv.1 = k) := by
    rw [← hp.findIdx k]; obtain ⟨l⟩ := es; simp
  cases hi : es.findIdx? fun e => knd.is k e.key with
  | some i =>
    refine wpAny_updateDict ho hd (hQ _ ⟨_, _, ep, Heap.get?_update_self _ ho (Obj.isFreed_of_dict (Obj.data_mapDict hd _)),
      hc.mapDict _, Obj.data_mapDict hd _, hk.modify _ _, ?_, ?_⟩ (Heap.SameBut.update ..))
    · rw [stored, if_pos (any_of_findIdx_some (hidx ▸ hi))]
      have hl : (es.toList.findIdx? fun e => knd.is k e.key) = some i := by rw [← hi]; obtain ⟨l⟩ := es; simp
      have := hp.modify hn hl v
      obtain ⟨l⟩ := es
      simpa using this
    · rw [stored, if_pos (any_of_findIdx_some (hidx ▸ hi)), keys_map_store]; exact hn
  | none =>
    have hnot : k ∉ kvs.map (·.1) := not_mem_of_findIdx_none (hidx ▸ hi)
    have hany : ¬ (kvs.any fun kv => decide (kv.1 = k)) = true := by
      rw [List.any_eq_true]; rintro ⟨kv, hkv, he⟩
      exact hnot (List.mem_map.mpr ⟨kv, hkv, of_decide_eq_true he⟩)
    refine wpAny_updateDictKeys (hz := hes) ho hd (hQ _ ⟨_, _, ep + 1, Heap.get?_update_self _ ho (Obj.isFreed_of_dict (Obj.data_mapDictKeys hd _)),
      hc.mapDictKeys _, Obj.data_mapDictKeys hd _, hk.push hkey _, ?_, ?_⟩ (Heap.SameBut.update ..))
    · rw [stored, if_neg hany]
      have := hp.append hkey (knd.hash k) v
      obtain ⟨l⟩ := es
      simpa using this
    · rw [stored, if_neg hany, List.map_append, List.nodup_append]
      refine ⟨hn, by simp, ?_⟩
      intro a ha b hb
      simp only [List.map_cons, List.map_nil, List.mem_singleton] at hb
      subst hb
      exact fun e => hnot (e ▸ ha)
theorem wpAny_mergeMapping {d o : Addr} {kvs more : List (K × Value)} {Q : Unit → Shared → Prop} (hdo : d ≠ o) (hoS : (o == sysModules) = false)
    (hd : s.heap.DictOf knd d kvs) (ho : s.heap.DictOf knd o more)
    (hQ : ∀ h', h'.DictOf knd d (merged kvs more) → h'.DictOf knd o more → Heap.SameBut d s.heap h' → Q () { s with heap := h' })
    (hsz : kvs.length + more.length ≤ sizeLine) :
    wpAny (model prog w) A (mergeMapping d (.ref o) false) Q E s := by
  obtain ⟨od, esd, epd, hod, hcd, hdd, hkd, hpd, hnd⟩ := id hd
  obtain ⟨oo, eso, epo, hoo, hco, hdo', hko, hpo, hno⟩ := id ho
  have hlen : more.length = eso.size := by rw [← hpo.length]; simp
  unfold mergeMapping
  refine wpAny_bind (wpAny_isInstance ho.typeIs isSubtype_dict_dict ?_)
  dsimp only
  rw [if_pos rfl]
  refine wpAny_bind (wpAny_specialOf ho.typeIs F.slot_dict_iter.lookup ?_)
  rw [show (some (Value.builtin "dict.__iter__") == some (Value.builtin "dict.__iter__")) = true from beq_self_eq_true _]
  refine wpAny_bind (wpAny_pure ?_)
  dsimp only
  rw [if_neg (by rw [hoS]; exact Bool.false_ne_true)]
  refine wpAny_bind (wpAny_dictEntries hod hdd ?_)
  have loopE : (forIn eso PUnit.unit fun (e : DictEntry) (_ : PUnit) => (match e.key with
      | Value.ref a => do
        let __do_lift ← specialOf e.key (Str.ofString "__eq__")
        if (__do_lift != some (Value.builtin "object.__eq__")) = true then
            if (Array.filter (fun x => x.hash == e.hash) eso).size > 1 then do
              (unsupported "dict.merge-into-an-empty-dict:keys-of-equal-hash" : Sem PUnit)
              pure (ForInStep.yield PUnit.unit)
            else pure (ForInStep.yield PUnit.unit)
          else pure (ForInStep.yield PUnit.unit)
      | x => pure (ForInStep.yield PUnit.unit) : Sem (ForInStep PUnit))) = pure PUnit.unit := by
    rw [← Array.forIn_toList]
    refine forIn_yield_id _ fun e he c => ?_
    obtain ⟨k, hkey, _⟩ := hko e (Array.mem_toList_iff.mp he)
    have bv := knd.byValue k _ hkey
    cases hk : e.key with
    | ref a => rw [hk] at bv; cases bv
    | _ => rfl
  suffices rest : wpAny (model prog w) A (do
      let l ← dictEntries o
      let epoch ← dictEpoch o
      forIn (List.range l.size) PUnit.unit fun i (_ : PUnit) => (do
        let l' ← dictEntries o
        match l'[i]? with
          | some e => do
            holding [e.key, e.val] (dictPut d e.hash e.key e.val)
            let ep' ← dictEpoch o
            if (ep' != epoch) = true then do
                (unsupported "dict.changed-during-merge" : Sem PUnit)
                pure (ForInStep.yield PUnit.unit)
              else pure (ForInStep.yield PUnit.unit)
          | _ => do
            (unsupported "dict.changed-during-merge" : Sem PUnit)
            pure (ForInStep.yield PUnit.unit) : Sem (ForInStep PUnit))
      pure ()) Q E s by
    split
    · refine wpAny_bind (wpAny_dictEntries hoo hdo' ?_)
      refine wpAny_bind (wpAny_of_eq loopE ?_)
      exact rest
    · exact rest
  refine wpAny_bind (wpAny_dictEntries hoo hdo' ?_)
  refine wpAny_bind (wpAny_dictEpoch hoo hdo' ?_)
  refine wpAny_bind ?_
  refine wpAny_forIn_list _
    (fun rest _ s' => ∃ h' i, s' = { s with heap := h' } ∧ rest = List.range' i (eso.size - i) ∧ i ≤ eso.size ∧ h'.DictOf knd d (merged kvs (more.take i)) ∧ h'.get? o = some oo ∧ Heap.SameBut d s.heap h')
    _ ?_ ?_ _ _ ⟨s.heap, 0, rfl, by rw [List.range_eq_range', Nat.sub_zero], Nat.zero_le _, by simpa [merged] using hd, hoo, Heap.SameBut.refl _ _⟩
  · rintro x rest b s' ⟨h', i, rfl, hr, hi, hd', hoo', hs'⟩
    have hlt : i < eso.size := by
      rcases Nat.lt_or_ge i eso.size with h | h
      · exact h
      · rw [Nat.sub_eq_zero_of_le h] at hr; simp at hr
    obtain ⟨rfl, hrest⟩ : x = i ∧ rest = List.range' (i + 1) (eso.size - (i + 1)) := by
      have e : eso.size - i = (eso.size - (i + 1)) + 1 := by omega
      rw [e, List.range'_succ] at hr
      injection hr with h1 h2
      exact ⟨h1, h2⟩
    refine wpAny_bind (wpAny_dictEntries hoo' hdo' ?_)
    rw [Array.getElem?_eq_getElem hlt]
    obtain ⟨kv, hkv⟩ : ∃ kv, more[x]? = some kv := ⟨more[x]'(by rw [hlen]; exact hlt), List.getElem?_eq_getElem _⟩
    obtain ⟨k, v⟩ := kv
    obtain ⟨hkey, hval⟩ := hpo.get? (e := eso[x]) (by simp [hlt]) hkv
    obtain ⟨k', hkey', hhash⟩ := hko eso[x] (Array.getElem_mem hlt)
    obtain rfl : k' = k := knd.inj _ _ _ hkey' hkey
    show wpAny _ _ (holding [eso[x].key, eso[x].val] (dictPut d eso[x].hash eso[x].key eso[x].val) >>= _) _ _ _
    rw [hhash, hval]
    have hmx : (merged kvs (more.take x)).length ≤ sizeLine := by
      have e1 := merged_length_le kvs (more.take x)
      have e2 : (more.take x).length ≤ more.length := by rw [List.length_take]; omega
      omega
    refine wpAny_bind (wpAny_holding (wpAny_dictPut (hsz := hmx) hkey hd' fun h'' hd'' hs'' => ?_))
    have hoo'' : h''.get? o = some oo := (hs''.2 o (Ne.symm hdo)).trans hoo'
    refine wpAny_bind (wpAny_dictEpoch hoo'' hdo' ?_)
    rw [if_neg (by simp)]
    exact wpAny_pure ⟨h'', x + 1, rfl, hrest, hlt, by rw [merged_take_succ kvs more x (k', v) hkv]; exact hd'', hoo'', hs'.trans hs''⟩
  · rintro b s' ⟨h', i, rfl, hr, hi, hd', hoo', hs'⟩
    have hin : i = eso.size := by
      rcases Nat.lt_or_ge i eso.size with h | h
      · have e : eso.size - i = (eso.size - (i + 1)) + 1 := by omega
        rw [e, List.range'_succ] at hr; exact nomatch hr
      · exact Nat.le_antisymm hi h
    refine wpAny_pure (hQ h' ?_ ⟨oo, eso, epo, hoo', hco, hdo', hko, hpo, hno⟩ hs')
    rw [hin, ← hlen, List.take_length] at hd'; exact hd'
end
section
open Sem (wp)
variable {prog : Program} {w : World} {K : Type} [DecidableEq K] {knd : KeyKind prog w K} {A : Around} {E : Value → Shared → Prop} {s : Shared}
/-- the walk of {**m, k: v} -/
theorem wpAny_dstar {mt kt vt : Sem Value} {Q : Value → Shared → Prop}
    (h : wpAny (model prog w) A mt (fun m s1 => ∃ o more, m = .ref o ∧ (o == sysModules) = false ∧ s.heap.objs.size ≠ o ∧ s1.heap.DictOf knd o more ∧ s1.heap.DictOf knd s.heap.objs.size [] ∧ more.length ≤ sizeLine ∧
      ∀ h1, h1.DictOf knd s.heap.objs.size (merged [] more) → Heap.SameBut s.heap.objs.size s1.heap h1 →
        wpAny (model prog w) A kt (fun kv s2 => wpAny (model prog w) A vt (fun vv s3 => ∃ k acc, knd.is k kv = true ∧ s3.heap.DictOf knd s.heap.objs.size acc ∧ acc.length + 1 ≤ sizeLine ∧ s3.heap.DictOf knd h1.objs.size [] ∧ h1.objs.size ≠ s.heap.objs.size ∧ (h1.objs.size == sysModules) = false ∧
          ∀ h4, h4.DictOf knd h1.objs.size [(k, vv)] → Heap.SameBut h1.objs.size s3.heap h4 → ∀ h5, h5.DictOf knd s.heap.objs.size (stored acc k vv) → Heap.SameBut s.heap.objs.size h4 h5 → Q (.ref s.heap.objs.size) { s3 with heap := h5, toks := s3.toks + 1 }) E s2) E
          { s1 with heap := h1.push { cls := .type "dict", data := .dict #[] } }) E { s with heap := s.heap.push { cls := .type "dict", data := .dict #[] } }) :
    wpAny (model prog w) A (dictDisplay [(none, mt), (some kt, vt)]) Q E s := by
  unfold dictDisplay
  dsimp only
  rw [List.forIn_cons]
  refine wpAny_bind (wpAny_bind ?_)
  dsimp only
  refine wpAny_bind (wpAny_of_eq (if_pos rfl) ?_)
  dsimp only
  refine wpAny_bind (wpAny_alloc ?_)
  refine wpAny_bind (wpAny_holding (wpAny_mono h (fun m s1 h1 => ?_) fun _ _ e => e))
  obtain ⟨o, more, rfl, hoS, hdo, ho, hd, hsz, h1⟩ := h1
  refine wpAny_bind (wpAny_onRaise (wpAny_tryCatch (wpAny_onRaise (wpAny_holding ?_))))
  refine wpAny_mergeMapping hdo hoS hd ho (fun h' hd' ho' hs' => ?_) (by rw [List.length_nil, Nat.zero_add]; exact hsz)
  refine wpAny_pure ?_
  dsimp only
  rw [List.forIn_cons]
  refine wpAny_bind ?_
  dsimp only
  refine wpAny_of_eq (if_neg (by simp)) ?_
  dsimp only
  rw [List.forIn_nil]
  refine wpAny_pure ?_

  refine wpAny_bind ?_
  rw [if_neg (by exact Bool.false_ne_true)]
  dsimp only
  refine wpAny_bind (wpAny_holding (wpAny_subDict (knd := knd) (by show 1 ≤ 15; decide) ?_))
  refine evalPairs_cons (wpAny_mono (h1 h' hd' hs') (fun kv s2 h2 => wpAny_mono h2 (fun vv s3 h3 => evalPairs_nil ?_) fun _ _ e => e) fun _ _ e => e)
  obtain ⟨k, acc, hkey, hda, hacc, hdn, hne, hnS, hQ⟩ := h3
  refine ⟨[(k, vv)], ⟨hkey, rfl, trivial⟩, hdn, fun h4 hm4 hs4 => ?_⟩
  refine wpAny_bind (wpAny_onRaise (wpAny_holding ?_))
  have e1 : merged [] [(k, vv)] = [(k, vv)] := by simp [merged, stored]
  rw [e1] at hm4
  have hda4 : h4.DictOf knd s.heap.objs.size acc := hda.sameBut hs4 (Ne.symm hne)
  refine wpAny_mergeMapping (Ne.symm hne) hnS hda4 hm4 (fun h5 hd5 ho5 hs5 => ?_) (by rw [List.length_singleton]; exact hacc)
  refine wpAny_pure (wpAny_pure ?_)
  have e2 : merged acc [(k, vv)] = stored acc k vv := by simp [merged]
  rw [e2] at hd5
  exact hQ h4 hm4 hs4 h5 hd5 hs5
end
/-- {**d, k: v}: d a dict of ints and texts -/
def tDStar (td tk tv : L2.TE) : L2.TE := fun σ H Q => ∀ p, H p = none → td σ (upd H p (.dK [])) fun m H1 => ∃ a kvs, m = .ref a ∧ H1 a = some (.dK kvs) ∧ a ≠ p ∧ H1 p = some (.dK []) ∧ kvs.length ≤ 1000 ∧
  ∀ q, (upd H1 p (.dK (mergeK [] kvs))) q = none → tk σ (upd (upd H1 p (.dK (mergeK [] kvs))) q (.dK [])) fun x H2 => tv σ H2 fun y H3 => ∃ (k : Key) (acc : List (Key × V)), x = kV k ∧ H3 p = some (.dK acc) ∧ acc.length ≤ 1000 ∧ H3 q = some (.dK []) ∧ p ≠ q ∧
    Q (.ref p) (upd (upd H3 q (.dK [(k, y)])) p (.dK (putK acc k y)))
theorem pe_dstar {X : Cx} {pos : Pos} {m k v : Expr} {td tk tv : TE} (hm : PE X m td) (hk : PE X k tk) (hv : PE X v tv) : PE X (.Dict [none, some k] [m, v] pos) (tDStar td tk tv) := by
  refine ⟨fun pins s σ H Q I q => ?_⟩
  have hn := I.hok.fresh (Nat.le_refl s.heap.objs.size)
  have I1 := I.laid (a := s.heap.objs.size) (o := .dK []) (h' := s.heap.push { cls := .type "dict", data := .dict #[] }) (t' := s.toks) (fun _ _ q => Heap.get?_push_of_some _ q) (Nat.le_refl _) (dk_empty s.heap I.big)
  rw [arm_eval_Dict]
  refine wpAny_bind (wpAny_standAt ?_)
  show wpAny _ _ (dictDisplay [(none, do let x ← eval m X.env; standAt pos; pure x), (some (eval k X.env), do let x ← eval v X.env; standAt pos; pure x)]) _ _ _
  refine wpAny_dstar (knd := mixKind X.prog X.w) ?_
  refine wpAny_bind (thn (hm.run pins _ σ _ _ I1 (q _ hn)) fun u s1 ⟨x, H1, I2, rx, a, kvs, ex, ha, ap, hp, l, q1⟩ => wpAny_bind (wpAny_standAt (wpAny_pure ?_)))
  subst ex
  obtain rfl : u = Value.ref a := rx
  obtain ⟨z2, hd2, vs2, rel2, dd2⟩ := dk_of I2.hok ha
  obtain ⟨z1, hd1, vs1, rel1, dd1⟩ := dk_of I2.hok hp
  cases rel1
  refine ⟨a, vs2, rfl, hd2, Ne.symm ap, dd2, dd1, by rw [← rel2.length]; exact z2, fun h1 dm1 sb1 => ?_⟩
  have he1 : ∃ q, h1.get? s.heap.objs.size = some q := let ⟨q, _, _, hq, _⟩ := dm1; ⟨q, hq⟩
  have zm : (mergeK [] kvs).length ≤ sizeLine := by
    have := length_mergeK kvs []
    rw [List.length_nil] at this
    omega
  have I3 := d_write (t' := s1.toks) I2 (by rw [hp]; exact True.intro) sb1 he1 (dk_new (H' := upd H1 s.heap.objs.size (.dK (mergeK [] kvs))) zm hd1 (rel2.merge .nil) dm1)
  have hn3 := I3.hok.fresh (Nat.le_refl h1.objs.size)
  have I4 := I3.laid (a := h1.objs.size) (o := .dK []) (h' := h1.push { cls := .type "dict", data := .dict #[] }) (t' := s1.toks) (fun _ _ q => Heap.get?_push_of_some _ q) (Nat.le_refl _) (dk_empty h1 I3.big)
  refine thn (hk.run pins _ σ _ _ I4 (q1 _ hn3)) fun kv s2 ⟨y, H2, I5, ry, q2⟩ => ?_
  refine wpAny_bind (thn (hv.run pins _ σ _ _ I5 q2) fun vv s3 ⟨z, H3, I6, rz, k', acc, ek, hpa, la, hq, pq, q3⟩ => wpAny_bind (wpAny_standAt (wpAny_pure ?_)))
  subst ek
  obtain ⟨z4, hd4, vs4, rel4, dd4⟩ := dk_of I6.hok hpa
  obtain ⟨z5, hd5, vs5, rel5, dd5⟩ := dk_of I6.hok hq
  cases rel5
  refine ⟨k', vs4, kV_is ry, dd4, ?_, dd5, Ne.symm pq, hd5, fun h4 d2 sb4 h5 d1 sb5 => ⟨.ref s.heap.objs.size, _, ?_, rfl, q3⟩⟩
  · rw [← rel4.length]
    exact Nat.lt_of_le_of_lt la (by decide)
  have r1 : KV (putK acc k' z) (stored vs4 k' vv) := rel4.put k' rz
  have r2 : KV [(k', z)] [(k', vv)] := .cons ⟨rfl, rz⟩ .nil
  have he4 : ∃ q, h4.get? h1.objs.size = some q := let ⟨q, _, _, hq, _⟩ := d2; ⟨q, hq⟩
  have he5 : ∃ q, h5.get? s.heap.objs.size = some q := let ⟨q, _, _, hq, _⟩ := d1; ⟨q, hq⟩
  have I7 := d_write (t' := s3.toks + 1) I6 (by rw [hq]; exact True.intro) sb4 he4 (dk_new (H' := upd H3 h1.objs.size (.dK [(k', z)])) (by show 1 ≤ sizeLine; decide) hd5 r2 d2)
  have zp : (putK acc k' z).length ≤ sizeLine := by
    have := length_putK acc k' z
    exact Nat.le_trans this (Nat.le_of_lt (Nat.lt_of_le_of_lt (Nat.succ_le_succ la) (by decide)))
  have hp7 : (upd H3 h1.objs.size (.dK [(k', z)])) s.heap.objs.size = some (.dK acc) := by rw [upd_ne pq]; exact hpa
  have I8 := d_write (t' := s3.toks + 1) I7 (by rw [hp7]; exact True.intro) sb5 he5 (dk_new (H' := upd (upd H3 h1.objs.size (.dK [(k', z)])) s.heap.objs.size (.dK (putK acc k' z))) zp hd4 r1 d1)
  exact I8
/-! ### a generator expression's own frame -/
/-- the context of a generator's turns: its frame cenv stands over the def's -/
abbrev gX (X : Cx) (s : Shared) (H : Hp) (A' : Around) (cenv : Env) (fp : List Addr) : Cx :=
  { X with A := A', s_0 := s, H_0 := H, env := cenv, outer := X.stack, stack := cenv :: X.stack, ex := fp, fn := fun _ => false, pn := [], xe := fun _ _ => False }
/-- what is asked of the expression's own scope -/
structure GnOk (scope : Scope) : Prop where
  co : scope.isCoroutine = false
  nocell : ∀ y ∈ scope.names, y.2 ≠ .cell
  dot : scope.names.lookup (".0" : Str) = some NameKind.local
section
variable {X : Cx} {pins : List (Addr × Obj)} {σ : L2.St} {H : Hp} {s : Shared}
theorem gen_start {scope : Scope} {own : List (Str × Nat)} {fp : List Addr} {A' : Around} {code : Value} {m0 : Str → Option Value} {h5 : Heap} {g5 : Array GenState} {t5 : Nat} {a : Addr} {go : Obj}
    (I : Inv X pins σ H s) (ok : BlkOk X.N X.env.scope scope own) (gk : GnOk scope) (hN : X.N.Nodup) (hfp : ∀ b ∈ fp, FpOk X pins H b ∧ b < s.heap.objs.size)
    (hA : A'.handled = none) (hF : A'.frames = some (genEnv scope (cloFrom X.env.cells scope.names []) s.heap.objs.size code builtinsNs X.env :: X.stack))
    (kp : ∀ b o, s.heap.get? b = some o → h5.get? b = some o) (hn : h5.Ns s.heap.objs.size m0) (hm0 : ∀ x, x ≠ (".0" : Str) → m0 x = none) (hdN : (".0" : Str) ∉ X.N) (hb5 : AllBare g5)
    (ha : s.heap.objs.size < a) (hgo : h5.get? a = some go) (hgd : ∀ v, go.data ≠ .cell v) :
    Inv (gX X s H A' (genEnv scope (cloFrom X.env.cells scope.names []) s.heap.objs.size code builtinsNs X.env) fp) [(a, go)] (wipe σ (own.map (·.2))) H { s with heap := h5, gens := g5, toks := t5 } := by
  have hfree : ∀ y ∈ scope.names, y.2 = .free → ∃ c, X.env.cells.lookup y.1 = some c := fun y hy e =>
    (ok.free y hy e).elim (fun k => I.ok.has _ (.inl k)) fun k => I.ok.has _ (.inr k)
  have cm : ∀ {y c}, (y, c) ∈ cloFrom X.env.cells scope.names [] → X.env.cells.lookup y = some c ∧ c < s.heap.objs.size := fun {y c} q => by
    rcases cloFrom_mem q with q | ⟨h1, e1⟩
    · cases q
    · obtain ⟨c1, hc1⟩ := hfree _ h1 rfl
      rw [hc1] at e1
      cases e1
      obtain ⟨w1, z1⟩ := I.cell _ _ hc1
      exact ⟨hc1, z1.lt⟩
  have cl : ∀ {y c}, (cloFrom X.env.cells scope.names []).lookup y = some c → X.env.cells.lookup y = some c ∧ c < s.heap.objs.size := fun {y c} e => cm (PySem.mem_of_lookup e)
  have look : ∀ {y}, scope.names.lookup y = some .free → ∃ c, (cloFrom X.env.cells scope.names []).lookup y = some c := fun {y} e =>
    mem_lookup (cloFrom_has (cells := X.env.cells) (acc := []) (PySem.mem_of_lookup e))
  generalize hce : genEnv scope (cloFrom X.env.cells scope.names []) s.heap.objs.size code builtinsNs X.env = ce at hF
  have cL : ce.locals = s.heap.objs.size := by rw [← hce]; rfl
  have cC : ce.cells = cloFrom X.env.cells scope.names [] := by rw [← hce]; rfl
  have cS : ce.scope = scope := by rw [← hce]; rfl
  have cF : ce.frame = some ce.locals := by rw [← hce]; rfl
  have okG : (gX X s H A' ce fp).Ok := by
    refine ⟨I.ok.mod, ?_, ?_, ?_, ?_, fun y z c e1 e2 => ?_, fun y hy => ?_, fun y c z e => ?_, fun _ => hA, hF, .inr ⟨rfl, cF⟩, fun b hb => ⟨?_, fun y c e z => ?_⟩, I.bs, Nat.le_trans I.ok.bsz I.sz, fun b o e hb => ?_, fun b hb z => ?_, I.stack, I.stkFree⟩
    · show ce.scope.kind = _
      rw [cS]
      exact ok.kind
    · show ce.globals = _
      rw [← hce]
      exact I.ok.glob
    · show ce.builtins = _
      rw [← hce]
      rfl
    · show s.heap.objs.size ≤ ce.locals
      rw [cL]
      exact Nat.le_refl _
    · have e1 : ce.cells.lookup y = some c := e1
      have e2 : ce.cells.lookup z = some c := e2
      rw [cC] at e1 e2
      exact I.ok.inj y z c (cl e1).1 (cl e2).1
    · show ∃ c, ce.cells.lookup y = some c
      rw [cC]
      have hy : scope.names.lookup y = some .cell ∨ scope.names.lookup y = some .free := by
        have hy' : ce.scope.names.lookup y = some .cell ∨ ce.scope.names.lookup y = some .free := hy
        rw [cS] at hy'
        exact hy'
      rcases hy with k | k
      · exact absurd rfl (gk.nocell _ (PySem.mem_of_lookup k))
      · exact look k
    · exact absurd (show false = true from z) Bool.false_ne_true
    · show b ≠ ce.locals
      rw [cL]
      exact Nat.ne_of_lt (hfp b hb).2
    · have e : ce.cells.lookup y = some c := e
      rw [cC] at e
      exact (hfp b hb).1.2.2.2.2.1 y c (cl e).1 z
    · rcases (hfp b hb).1.2.2.2.1 with q | q
      · exact I.ok.noex b o e q
      · exact absurd (Nat.lt_of_lt_of_le (Heap.lt_size e) (Nat.le_trans I.ok.bsz q)) (Nat.lt_irrefl _)
    · rcases List.mem_cons.mp (I.stkSub b z) with q | q
      · exact (hfp b hb).1.2.1 q
      · exact (hfp b hb).1.2.2.1 q
  refine ⟨okG, rfl, hb5, Un.kept kp, ⟨m0, ?_, fun i y av e1 e2 e3 => ?_⟩, fun y c e => ?_, ?_, fun y c e => ?_, fun p hp => ?_, I.hok.kept kp, by rw [wipe_length]; exact I.len⟩
  · show Heap.Ns _ ce.locals _
    rw [cL]
    exact hn
  · obtain ⟨e2, hne⟩ := wipe_some e2
    have e3 : Vis ce.scope y := e3
    rw [cS] at e3
    have hfr : scope.names.lookup y = some .free := by
      have no : ∀ k, scope.names.lookup y = some k → ¬ (k = .local ∨ k = .cell) := fun k hk hh => by
        rcases ok.own _ (PySem.mem_of_lookup hk) hh with q | q
        · obtain ⟨p, hp, hpy⟩ := List.mem_map.mp q
          have e4 := ok.ix p hp
          have hpy : p.1 = y := hpy
          rw [hpy] at e4
          exact hne (List.mem_map.mpr ⟨p, hp, nodup_ix hN e4 e1⟩)
        · exact q (List.mem_of_getElem? e1)
      rcases e3 with e3 | e3 | e3
      · exact absurd (.inl rfl) (no _ e3)
      · exact absurd (.inr rfl) (no _ e3)
      · exact e3
    obtain ⟨m, _, hl⟩ := I.loc
    have hvis : Vis X.env.scope y := (ok.free _ (PySem.mem_of_lookup hfr) rfl).elim (fun k => .inr (.inl k)) fun k => .inr (.inr k)
    obtain ⟨w1, r1, q1⟩ := hl i y av e1 e2 hvis
    obtain ⟨c, hc⟩ := look hfr
    refine ⟨w1, r1, .inr ⟨.inr (by show ce.scope.names.lookup y = _; rw [cS]; exact hfr), c, by show ce.cells.lookup y = _; rw [cC]; exact hc, ?_⟩⟩
    rcases q1 with ⟨k, _⟩ | ⟨_, c', e', z⟩
    · have k : X.env.scope.names.lookup y = some .local := k
      rcases ok.free _ (PySem.mem_of_lookup hfr) rfl with k' | k' <;> (have k' : X.env.scope.names.lookup y = _ := k'; rw [k'] at k; cases k)
    · rw [(cl hc).1] at e'
      cases e'
      exact z.keeps kp
  · have e : ce.cells.lookup y = some c := e
    rw [cC] at e
    obtain ⟨w1, z1⟩ := I.cell y c (cl e).1
    exact ⟨w1, z1.keeps kp⟩
  · show H ce.locals = none
    rw [cL]
    exact I.hok.fresh (Nat.le_refl _)
  · have e : ce.cells.lookup y = some c := e
    rw [cC] at e
    exact I.freeC y c (cl e).1
  · have hp : p = (a, go) := by simpa using hp
    subst hp
    refine ⟨hgo, I.hok.fresh (Nat.le_of_lt ha), ?_, fun z => ?_, hgd⟩
    · show a ≠ ce.locals
      rw [cL]
      exact Nat.ne_of_gt ha
    · have z : a ∈ frs X.stack := z
      obtain ⟨_, o, ho, _⟩ := I.stack.mem z
      exact absurd (Nat.lt_trans (Heap.lt_size ho) ha) (Nat.lt_irrefl _)
end
/-! ### all(..), any(..) of a generator, told by what each turn does -/
/-- between a yield and the next turn -/
structure Rs (s s' : Shared) : Prop where
  heap : s'.heap = s.heap
  os : s'.os = s.os
  bare : AllBare s'.gens
  size : s.gens.size ≤ s'.gens.size
theorem inv_gens {X : Cx} {pins : List (Addr × Obj)} {σ : L2.St} {H : Hp} {s s' : Shared} (I : Inv X pins σ H s) (h1 : s'.heap = s.heap) (h2 : s'.os = s.os) (h3 : AllBare s'.gens) : Inv X pins σ H s' := by
  obtain ⟨hh, g, d, t, o⟩ := s'
  have e1 : hh = s.heap := h1
  have e2 : o = s.os := h2
  subst e1 e2
  exact ⟨I.ok, I.os, h3, I.base, I.loc, I.cell, I.free, I.freeC, I.pin, I.hok, I.len⟩
theorem Rs.inv {X : Cx} {pins : List (Addr × Obj)} {σ : L2.St} {H : Hp} {s s' : Shared} (r : Rs s s') (I : Inv X pins σ H s) : Inv X pins σ H s' := by
  obtain ⟨h1, h2, h3, _⟩ := r
  obtain ⟨hh, g, d, t, o⟩ := s'
  have e1 : hh = s.heap := h1
  have e2 : o = s.os := h2
  subst e1 e2
  exact ⟨I.ok, I.os, h3, I.base, I.loc, I.cell, I.free, I.freeC, I.pin, I.hok, I.len⟩
theorem bare_set {gens : Array GenState} (h : AllBare gens) {g : Nat} {x : GenState} (hx : x.bare = true) : AllBare (gens.setIfInBounds g x) := fun y hy => by
  obtain ⟨i, hi, rfl⟩ := Array.mem_iff_getElem.mp hy
  rw [Array.size_setIfInBounds] at hi
  rw [Array.getElem_setIfInBounds hi]
  split
  · exact hx
  · exact h _ (Array.getElem_mem hi)
theorem Rs.set {s : Shared} (hb : AllBare s.gens) {g : Nat} {x : GenState} (hx : x.bare = true) : Rs s (s.setGen g x) :=
  ⟨rfl, rfl, bare_set hb hx, Nat.le_of_eq (GenW.setGen_size s g x).symm⟩
theorem Rs.trans {s s1 s2 : Shared} (a : Rs s s1) (b : Rs s1 s2) : Rs s s2 := ⟨b.heap.trans a.heap, b.os.trans a.os, b.bare, Nat.le_trans a.size b.size⟩
/-- the protocol of a generator whose items are truths: T b: what holds where b comes out -/
def gY (gi : Nat) (a : Addr) (stop : Bool) (Fin : Shared → Prop) : Protocol := fun n s₀ v s kap =>
  ∃ b, v = .bool b ∧ s.heap.IsGen a gi ∧ s.heap.NoLimit ∧ AllBare s.gens ∧ gi < s.gens.size ∧ (b = stop → Fin s) ∧ (b ≠ stop → ∀ s', Rs s s' → kap (.send .none) s')
def gR (End : Shared → Prop) : Nat → Shared → Shared → Prop := fun _ _ s => AllBare s.gens ∧ End s
/-- the generator waits -/
def Waits (prog : Program) (w : World) (A : Around) (gi : Nat) (a : Addr) (stop : Bool) (End Fin : Shared → Prop) (n : Nat) (s : Shared) : Prop :=
  s.heap.IsGen a gi ∧ s.heap.NoLimit ∧ AllBare s.gens ∧ ∃ gs, s.gens[gi]? = some gs ∧
    ∀ s', Rs s s' → gs.Goes (model prog w) A.in1 (fun n s₀ r s₁ => r = .ok .next ∧ gR End n s₀ s₁) (gY gi a stop Fin) n (.send .none) s'
section
variable {prog : Program} {w : World} {A : Around} {gi : Nat} {a : Addr} {stop : Bool} {End Fin : Shared → Prop}
theorem waits_next {n : Nat} {s : Shared} {Q : Option Value → Shared → Prop} {E : Value → Shared → Prop} (hh : A.handled = none) (hroom : A.depth < recursionLimit)
    (hE : ∀ s s' : Shared, End s → s'.os = s.os → AllBare s'.gens → (∀ b o, s.heap.get? b = some o → s'.heap.get? b = some o) → End s')
    (hF : ∀ s s' : Shared, Fin s → s'.os = s.os → AllBare s'.gens → (∀ b o, s.heap.get? b = some o → s'.heap.get? b = some o) → Fin s')
    (W : Waits prog w A gi a stop End Fin n s) (hN : ∀ s', End s' → Q none s') (hS : ∀ s', Fin s' → Q (some (.bool stop)) s')
    (hG : ∀ s' m, m < n → Waits prog w A gi a stop End Fin m s' → Q (some (.bool (!stop))) s') : wpAny (model prog w) A (pyNext (.ref a)) Q E s := by
  obtain ⟨hg, hl, hb, gs, hgs, hgo⟩ := W
  refine wpAny_pyNext_genexpQ (P := gR End) (Y := gY gi a stop Fin) hh hl hroom hg hgs (hgo _ (Rs.set hb rfl)) (fun v s₁ gs' hb' hv => ?_) fun s₁ hp h' hk => ?_
  · obtain ⟨b, rfl, g1, l1, b1, z1, f1, k1⟩ := hv
    by_cases e : b = stop
    · subst e
      exact hS _ (hF _ _ (f1 rfl) rfl (bare_set b1 hb') fun _ _ q => q)
    · have eb : b = !stop := by cases b <;> cases stop <;> first | rfl | exact absurd rfl e
      subst eb
      cases n with
      | zero => exact False.elim (k1 e s₁ ⟨rfl, rfl, b1, Nat.le_refl _⟩)
      | succ m =>
        refine hG _ m (Nat.lt_succ_self m) ⟨g1, l1, bare_set b1 hb', gs', ?_, fun s' r => k1 e s' ((Rs.set b1 hb').trans r)⟩
        show (s₁.gens.setIfInBounds gi gs')[gi]? = some gs'
        rw [Array.getElem?_setIfInBounds_self_of_lt z1]
  · obtain ⟨b1, e1⟩ := hp
    exact hN _ (hE _ _ e1 rfl (bare_set b1 rfl) fun b o q => hk b o q)
end
section
variable {prog : Program} {w : World} {A : Around} {gi : Nat} {a : Addr} {End Fin : Shared → Prop}
theorem all_loop (hh : A.handled = none) (hroom : A.depth < recursionLimit)
    (hE : ∀ s s' : Shared, End s → s'.os = s.os → AllBare s'.gens → (∀ b o, s.heap.get? b = some o → s'.heap.get? b = some o) → End s')
    (hF : ∀ s s' : Shared, Fin s → s'.os = s.os → AllBare s'.gens → (∀ b o, s.heap.get? b = some o → s'.heap.get? b = some o) → Fin s') :
    ∀ (n : Nat) (s : Shared), Waits prog w A.in1 gi a false End Fin n s →
      codeAny (model prog w) A (.builtin "all.loop" ⟨[.ref a], []⟩) (fun r s' => (r = .ok (.ret (.bool true)) ∧ End s') ∨ (r = .ok (.ret (.bool false)) ∧ Fin s')) s := by
  intro n
  induction n using Nat.strongRecOn with
  | ind n ih =>
    intro s W
    refine codeAny_builtin PySem.F.entry_all_loop ?_
    rw [Around.under_plainId PySem.F.plain_all_loop]
    show wpAny (model prog w) A.in1 (pyNext (.ref a) >>= _) _ _ s
    refine wpAny_bind (waits_next (A := A.in1) hh hroom hE hF W (fun s' e => ?_) (fun s' e => ?_) fun s' m hm W' => ?_)
    · exact wpAny_bind (wpAny_rule (wpAny_pure (.inl ⟨rfl, e⟩)))
    · refine wpAny_bind (wpAny_holding (wpAny_truthy_bool ?_))
      refine wpAny_bind (wpAny_letGo ?_)
      exact wpAny_bind (wpAny_rule (wpAny_pure (.inr ⟨rfl, e⟩)))
    · refine wpAny_bind (wpAny_holding (wpAny_truthy_bool ?_))
      refine wpAny_bind (wpAny_letGo ?_)
      exact wpAny_pure ⟨plainId_quiet PySem.F.plain_all_loop _, ih m hm s' W'⟩
end
/-! ### all(elt for target in iter) -/
/-- the reading: W by the turn and a measure; P: the def's table, which may grow -/
def tAll (P : Addr) (wi : TI) (g : TG) (te : TE) (vs : List Nat) : TE := fun σ H Q => wi σ H fun J H1 => GxR.TabG H1 P ∧ ∃ W : Nat → Nat → Hp → Prop, (∀ H2, GxR.Tabbed P H1 H2 → ∃ m, W 0 m H2) ∧ ∀ i m H, W i m H →
  (J.stop i H ∧ Q (.bl true) H) ∨ (J.go i H ∧ ∃ Nx : Hp → Prop, (∀ H', Nx H' → ∃ m', m' < m ∧ W (i + 1) m' H') ∧ ∀ x H', J.yld i H x H' → g x (wipe σ vs) H' fun σ2 H2 => wipe σ2 vs = wipe σ vs ∧
    te σ2 H2 fun y H3 => ∃ b, y = .bl b ∧ if b = true then Nx H3 else Q (.bl false) H3)
section
variable {X : Cx}
theorem pe_all {k : Nat} {c P : Addr} {elt tg iter : Expr} {scope : Scope} {own : List (Str × Nat)} {p pos gpos : Pos} {wi : TI} {g : TG} {te : TE}
    (hr : Room (k + 1) X.A) (TB : GxR.TabB X.base X.mg c P) (hcode : X.env.code = .ref c) (hc : X.calm = true) (hN : X.N.Nodup) (hG : Gl X "all") (hM : X.mg "all" = none) (hi : PI X tg iter wi) (ok : BlkOk X.N X.env.scope scope own) (gk : GnOk scope) (hdN : (".0" : Str) ∉ X.N)
    (hg : ∀ (s : Shared) (H : Hp) (A' : Around) (C : Addr) (cl : List (Str × Addr)) (code : Value) (fp : List Addr), PG (gX X s H A' (genEnv scope cl C code builtinsNs X.env) fp) tg g)
    (he : ∀ (s : Shared) (H : Hp) (A' : Around) (C : Addr) (cl : List (Str × Addr)) (code : Value) (fp : List Addr), Room k A' → PE (gX X s H A' (genEnv scope cl C code builtinsNs X.env) fp) elt te)
    (hs : ∀ v, genFold iter X.env v = pure v := by intro _; rfl)
    (hst : starEach [.GeneratorExp elt [⟨tg, iter, [], 0⟩] scope gpos] X.env = (false, eval (.GeneratorExp elt [⟨tg, iter, [], 0⟩] scope gpos) X.env) :: starEach [] X.env := by rfl) :
    PE X (.Call (.Name "all" p) [.GeneratorExp elt [⟨tg, iter, [], 0⟩] scope gpos] [] pos) (tAll P wi g te (own.map (·.2))) := by
  refine ⟨fun pins s σ H Q I h => ?_⟩
  have hh : X.A.handled = none := hr.hd
  refine wpAny_Call_Name_kw (ld_blt I hG hM PyProof.Rows.boot_all ?_)
  refine PyProof.Rows.callWith_builtin1 ?_ hst (by rfl)
  rw [hst]
  show wpAny _ _ (spliced ((false, eval (.GeneratorExp elt [⟨tg, iter, [], 0⟩] scope gpos) X.env) :: backTo pos (starEach [] X.env))) _ _ s
  have hfree : ∀ y ∈ scope.names, y.2 = .free → ∃ c, X.env.cells.lookup y.1 = some c := fun y hy e =>
    (ok.free y hy e).elim (fun k => I.ok.has _ (.inl k)) fun k => I.ok.has _ (.inr k)
  refine Calls.spliced_cons (wpAny_GeneratorExp_make gk.co (closure_ok hfree) gk.nocell gk.dot ok.kind (by have := hr.dp; omega) (thn (hi.run pins s σ H _ I h) fun xv s1 hx => thn hx fun itv s2 h2 => ?_) hs)
  obtain ⟨it, fp, tn, J, H2, e, I2, T, st2, f2, ⟨ps, hP, ht⟩, W, w0, turn⟩ := h2
  subst e
  refine ⟨I2.nolimit, ?_⟩
  have hPs : s2.heap.get? P = some { cls := .none, data := .fields ps } := I2.hok P _ hP
  have cd : PySem.W.CodeHd s2.heap c P := TB.code.keeps fun b u e => I2.bk b u e
  have sz2 : ∀ b ∈ fp, b < s2.heap.objs.size := fun b hb => by
    obtain ⟨o, e, _⟩ := T.obj _ _ st2 b hb
    exact Heap.lt_size e
  have nfP : ∀ b ∈ fp, b ≠ P := fun b hb z => by
    have q := (f2 b hb).1
    rw [z, hP] at q
    cases q
  -- behind the table
  have cont : ∀ (code : Value) (h3 : Heap) (tk : Nat) (more : Array Value), s2.heap.objs.size ≤ h3.objs.size → (∀ b o, b ≠ P → s2.heap.get? b = some o → h3.get? b = some o) → h3.get? P = some { cls := .none, data := .fields (ps ++ more) } → TriplesOk (ps ++ more).toList →
      wpAny (model X.prog X.w) X.A (builtinsFor X.env.globals X.env.builtins) (fun bi s4 => ∀ h', h'.Ns s4.heap.objs.size (fun y => if y = ".0" then some (.ref it) else none) → Heap.SameBut s4.heap.objs.size (s4.heap.push { cls := .type "frame", data := .dict #[] }) h' →
        wpAny (model X.prog X.w) X.A (spliced (backTo pos (starEach [] X.env))) (fun vs s5 => wpAny (model X.prog X.w) X.A (call (.builtin "all") (.ref h'.objs.size :: vs)) (EP X pins σ Q) X.xe s5) X.xe { s4 with
            gens := s4.gens.push (.fresh (.compStart (.GeneratorExp elt [⟨tg, iter, [], 0⟩] scope gpos) 0 (.ref it) .none (genEnv scope (cloFrom X.env.cells scope.names []) s4.heap.objs.size code bi X.env))), toks := s4.toks + 1 + 1 + 1,
            heap := h'.push { cls := .type "generator", data := .fields #[.int s4.gens.size 0, .str "<genexpr>" (s4.toks + 1), .str (X.env.qual ++ "<genexpr>") (s4.toks + 1 + 1)] } }) X.xe { s2 with heap := h3, toks := tk } := by
    intro code h3 tk more hle3 hk3 hP3 ht3
    have I3 : Inv X pins σ (upd H2 P (.tbl (ps ++ more))) { s2 with heap := h3, gens := s2.gens, drawn := s2.drawn, toks := tk } := GxR.inv_tab I2 hP hk3 hP3 I2.bare
    have tab3 : GxR.Tabbed P H2 (upd H2 P (.tbl (ps ++ more))) := ⟨⟨_, upd_same, ht3⟩, fun b hb => upd_ne hb⟩
    have st3 : tn 0 h3 := T.keep _ _ _ st2 fun b hb o e => hk3 b o (nfP b hb) e
    have f3 : ∀ b ∈ fp, FpOk X pins (upd H2 P (.tbl (ps ++ more))) b := fun b hb => ⟨by rw [upd_ne (nfP b hb)]; exact (f2 b hb).1, (f2 b hb).2⟩
    generalize upd H2 P (.tbl (ps ++ more)) = H3 at I3 tab3 f3
    obtain ⟨m0, hw0⟩ := w0 H3 tab3
    have sz3 : ∀ b ∈ fp, b < h3.objs.size := fun b hb => Nat.lt_of_lt_of_le (sz2 b hb) hle3
    have hs3 : ({ s2 with heap := h3, gens := s2.gens, drawn := s2.drawn, toks := tk } : Shared) = { s2 with heap := h3, toks := tk } := rfl
    rw [hs3] at I3
    generalize hsh : ({ s2 with heap := h3, toks := tk } : Shared) = s3 at I3 ⊢
    have eh : h3 = s3.heap := by rw [← hsh]
    rw [eh] at st3 sz3
    clear hsh hs3 eh hP3 hk3 hle3
    obtain ⟨bm, ob, e1, e2, e3, e4, e5, e6, e7, e8⟩ := TB.bm
    refine wpAny_builtinsFor (m := X.mg) (by rw [I3.ok.glob]; exact I3.mod.glob.keeps I3.bk) e1 e2 (I3.bk _ _ e5) e6 e7 e8 ?_
    intro h' hn' hs'
    refine Calls.spliced_nil ?_
    have hsz : h'.objs.size = s3.heap.objs.size + 1 := by rw [hs'.1, Heap.size_push]
    generalize hgo : ({ cls := .type "generator", data := .fields #[.int s3.gens.size 0, .str "<genexpr>" (s3.toks + 1), .str (X.env.qual ++ "<genexpr>") (s3.toks + 1 + 1)] } : Obj) = go
    have kp5 : ∀ b o, s3.heap.get? b = some o → (h'.push go).get? b = some o := fun b o e => Heap.get?_push_of_some _ (hs'.extBut b o (Nat.ne_of_lt (Heap.lt_size e)) (Heap.get?_push_of_some _ e))
    generalize hce : genEnv scope (cloFrom X.env.cells scope.names []) s3.heap.objs.size code builtinsNs X.env = ce
    have hhA : (X.A.in1.in1.over (.compLoop (.GeneratorExp elt [⟨tg, iter, [], 0⟩] scope gpos) 0 (.ref it) .none ce) []).handled = none := hh
    have hFr : (X.A.in1.in1.over (.compLoop (.GeneratorExp elt [⟨tg, iter, [], 0⟩] scope gpos) 0 (.ref it) .none ce) []).frames = some (ce :: X.stack) := by
      show pushEnvs [ce] (pushEnvs [] X.A.frames) = _
      rw [I3.ok.frames]
      rfl
    have hRm : Room k (X.A.in1.in1.over (.compLoop (.GeneratorExp elt [⟨tg, iter, [], 0⟩] scope gpos) 0 (.ref it) .none ce) []) := by
      have z1 := hr.dp
      have z2 := hr.un
      refine ⟨hhA, ?_, ?_⟩
      · show X.A.depth + 0 + 1 + 3 * k + 5 < recursionLimit
        omega
      · show X.A.units + 1 + 1 + 0 + 3 + 16 * k + 200 < cLine
        omega
    generalize hAg : X.A.in1.in1.over (.compLoop (.GeneratorExp elt [⟨tg, iter, [], 0⟩] scope gpos) 0 (.ref it) .none ce) [] = Ag at hhA hFr hRm
    have I5 : Inv (gX X s3 H3 Ag ce fp) [(h'.objs.size, go)] (wipe σ (own.map (·.2))) H3 { s3 with heap := h'.push go, gens := s3.gens.push (.fresh (.compStart (.GeneratorExp elt [⟨tg, iter, [], 0⟩] scope gpos) 0 (.ref it) .none ce)), toks := s3.toks + 1 + 1 + 1 } := by
      have q := gen_start (code := code) (A' := Ag) (h5 := h'.push go) (g5 := s3.gens.push (.fresh (.compStart (.GeneratorExp elt [⟨tg, iter, [], 0⟩] scope gpos) 0 (.ref it) .none ce))) (t5 := s3.toks + 1 + 1 + 1) (go := go) I3 ok gk hN (fun b hb => ⟨f3 b hb, sz3 b hb⟩) hhA (by rw [hce]; exact hFr) kp5 (hn'.push _)
        (fun x hx => if_neg hx) hdN (I3.bare.push rfl) (a := h'.objs.size) (by omega) (Heap.get?_push_size _ (by rw [← hgo]; rfl)) (by rw [← hgo]; intro v z; cases z)
      rw [hce] at q
      exact q
    have st5 : tn 0 (h'.push go) := T.keep _ _ _ st3 fun b _ o e => kp5 b o e
    have nfp : ∀ b ∈ fp, H3 b = none := fun b hb => (f3 b hb).1
    have pg := hg s3 H3 Ag s3.heap.objs.size (cloFrom X.env.cells scope.names []) code fp
    have pe := he s3 H3 Ag s3.heap.objs.size (cloFrom X.env.cells scope.names []) code fp hRm
    rw [hce] at pg pe
    have cCo : ce.scope.isCoroutine = false := by rw [← hce]; exact gk.co
    clear hn' hs' kp5 w0 hce
    -- back in the def's context
    have back : ∀ {σ' : L2.St} {H' : Hp} {s' : Shared} {pl : List (Addr × Obj)}, Inv (gX X s3 H3 Ag ce fp) pl σ' H' s' → Inv X pins σ H' s' := fun {σ' H' s' pl} J => I3.call' (ch := fp) J.os J.base J.hok J.bare fun b hb =>
      ⟨(f3 b hb).2.2.2.1, (f3 b hb).2.1, (f3 b hb).2.2.2.2.1, (f3 b hb).2.2.2.2.2⟩
    have stat : ∀ {σ' : L2.St} {H' : Hp} {s' : Shared}, Inv (gX X s3 H3 Ag ce fp) [(h'.objs.size, go)] σ' H' s' → (∀ b ∈ fp, H' b = none) → ∀ b ∈ fp, FpOk (gX X s3 H3 Ag ce fp) [(h'.objs.size, go)] H' b := fun {σ' H' s'} J hn b hb =>
      ⟨hn b hb, (J.ok.exf b hb).1, J.ok.exfs b hb, .inl hb, fun x c e => (J.ok.exf b hb).2 x c e, fun p hp => by
        have hp : p = (h'.objs.size, go) := by simpa using hp
        rw [hp]
        exact Nat.ne_of_gt (Nat.lt_trans (sz3 b hb) (by rw [hsz]; exact Nat.lt_succ_self _))⟩
    have gen : ∀ {σ' : L2.St} {H' : Hp} {s' : Shared} {pl : List (Addr × Obj)}, Inv (gX X s3 H3 Ag ce fp) ([(h'.objs.size, go)] ++ pl) σ' H' s' → s'.heap.IsGen h'.objs.size s3.gens.size := fun {σ' H' s' pl} J => by
      have q := (J.pin (h'.objs.size, go) (by simp)).1
      exact ⟨go, _, _, q, by rw [← hgo], by rw [← hgo], by rw [← hgo]⟩
    -- the turns
    have loop : ∀ (m n i : Nat) (s₀ s : Shared) (H : Hp), m < n → W i m H → Inv (gX X s3 H3 Ag ce fp) [(h'.objs.size, go)] (wipe σ (own.map (·.2))) H s → tn i s.heap → (∀ b ∈ fp, H b = none) → s3.gens.size + 1 ≤ s.gens.size →
        Seg (model X.prog X.w) X.A.in1.in1 (fun n s₀ r s₁ => r = .ok .next ∧ gR (fun s => ∃ H', Inv X pins σ H' s ∧ Q (.bl true) H') n s₀ s₁) (gY s3.gens.size h'.objs.size false fun s => ∃ H', Inv X pins σ H' s ∧ Q (.bl false) H') n s₀
          (.compLoop (.GeneratorExp elt [⟨tg, iter, [], 0⟩] scope gpos) 0 (.ref it) .none ce) ((model X.prog X.w).den (.compLoop (.GeneratorExp elt [⟨tg, iter, [], 0⟩] scope gpos) 0 (.ref it) .none ce)) [] s := by
      intro m
      induction m using Nat.strongRecOn with
      | ind m ih =>
        intro n i s₀ s H hmn w J st nf hz
        show Seg (model X.prog X.w) _ _ _ n s₀ _ ((compTurn (.GeneratorExp elt [⟨tg, iter, [], 0⟩] scope gpos) 0 (.ref it) .none ce).onRaise (leaving ce)) [] s
        rw [compTurn_gen]
        rw [Sem.onRaise_eq_wrap]
        refine seg_bind_wrap (wpAny_standAt (seg_bind_wrap ?_))
        rw [hAg]
        rcases turn i m H w with ⟨stp, qq⟩ | ⟨go', Nx, hNx, step⟩
        · refine thnF (T.done (gX X s3 H3 Ag ce fp) rfl rfl rfl hc i _ s _ H (fun _ _ => False) J (stat J nf) st stp) fun r s6 ⟨hr6, J6⟩ => ?_
          subst hr6
          exact seg_end (.ok .next) ⟨rfl, J6.bare, H, back J6, qq⟩
        · refine GenW.wpAny_gsz hz (thnF (T.item (gX X s3 H3 Ag ce fp) rfl rfl rfl hc i _ s _ H (fun _ _ => False) J (stat J nf) st go') fun r s6 ⟨u, hr6, h6⟩ hz6 => ?_)
          subst hr6
          refine seg_bind_wrap ?_
          rw [hAg]
          refine GenW.wpAny_gsz hz6 (thnF h6 fun _ s7 ⟨x, H7, J7, r7, y7, st7, n7⟩ hz7 => ?_)
          have J7' := J7.pinned (stat J7 n7) (T.obj _ _ st7)
          refine seg_bind_wrap ?_
          rw [hAg]
          refine GenW.wpAny_gsz hz7 (thnF (pg.run _ s7 _ H7 x u _ J7' r7 (step x H7 y7)) fun _ s8 ⟨σ8, H8, J8, hw8, q8⟩ hz8 => ?_)
          simp only [List.forIn_nil]
          refine seg_bind_wrap (wpAny_pure ?_)
          simp only [if_true]
          have hy : ∀ v, yieldOut ce v = yieldValue v := fun v => by simp only [yieldOut, cCo, Bool.false_eq_true, if_false]
          simp only [hy]
          rw [Sem.bind_eq_wrap', Sem.bind_eq_wrap']
          rw [Sem.wrap_wrap, Sem.wrap_wrap]
          refine seg_wrap ?_
          rw [hAg]
          refine GenW.wpAny_gsz hz8 (thnF (pe.run _ s8 σ8 H8 _ J8 q8) fun z s9 ⟨yv, H9, J9, r9, b, eb, qb⟩ hz9 => ?_)
          subst eb
          obtain rfl : z = Value.bool b := r9
          obtain ⟨n', rfl⟩ : ∃ n', n = n' + 1 := ⟨n - 1, by omega⟩
          refine seg_at (seg_yield rfl rfl rfl ⟨b, rfl, gen J9, J9.nolimit, J9.bare, hz9, fun e => ?_, fun e s' r => ?_⟩)
          · subst e
            exact ⟨H9, back J9, qb⟩
          · have e : b = true := by
              cases b with
              | true => rfl
              | false => exact absurd rfl e
            subst e
            rw [if_pos rfl] at qb
            obtain ⟨m', hm', w'⟩ := hNx H9 qb
            have pin' : ∀ b ∈ fp, ∀ o, s7.heap.get? b = some o → s9.heap.get? b = some o ∧ H9 b = none := fun b hb o e =>
              let z := J9.pin (b, o) (List.mem_append_right _ (List.mem_append_right _ (mem_pinsAt hb e)))
              ⟨z.1, z.2.1⟩
            have hl : (wipe σ (own.map (·.2))).length = σ8.length := by rw [← hw8, wipe_length]
            have K9 : Inv (gX X s3 H3 Ag ce fp) [(h'.objs.size, go)] (wipe σ (own.map (·.2))) H9 s9 := J9.unpinned.weak hl fun j v e => by
              rw [← hw8] at e
              exact (wipe_some e).1
            refine seg_again rfl (ih m' hm' n' (i + 1) s' s' H9 (by omega) w' (r.inv K9) ?_ (fun b hb => ?_) (Nat.le_trans hz9 r.size))
            · rw [r.heap]
              exact T.keep _ _ _ st7 fun b hb o e => (pin' b hb o e).1
            · obtain ⟨o, e, _⟩ := T.obj _ _ st7 b hb
              exact (pin' b hb o e).2
    have mono : ∀ (b : Bool) (s s' : Shared), (∃ H', Inv X pins σ H' s ∧ Q (.bl b) H') → s'.os = s.os → AllBare s'.gens → (∀ b o, s.heap.get? b = some o → s'.heap.get? b = some o) → ∃ H', Inv X pins σ H' s' ∧ Q (.bl b) H' := fun b s s' ⟨H', J, q⟩ h1 h2 h3 =>
      ⟨H', inv_gens (J.kept (t' := s'.toks) h3) rfl h1 h2, q⟩
    generalize hs5 : ({ s3 with heap := h'.push go, gens := s3.gens.push (.fresh (.compStart (.GeneratorExp elt [⟨tg, iter, [], 0⟩] scope gpos) 0 (.ref it) .none ce)), toks := s3.toks + 1 + 1 + 1 } : Shared) = s5 at I5
    have hg5 : s5.gens[s3.gens.size]? = some (.fresh (.compStart (.GeneratorExp elt [⟨tg, iter, [], 0⟩] scope gpos) 0 (.ref it) .none ce)) := by
      rw [← hs5]
      exact Array.getElem?_push_size ..
    have hz5 : s3.gens.size + 1 ≤ s5.gens.size := by
      rw [← hs5]
      exact Nat.le_of_eq (Array.size_push ..).symm
    have ht5 : tn 0 s5.heap := by rw [← hs5]; exact st5
    have wt : Waits X.prog X.w X.A.in1 s3.gens.size h'.objs.size false (fun s => ∃ H', Inv X pins σ H' s ∧ Q (.bl true) H') (fun s => ∃ H', Inv X pins σ H' s ∧ Q (.bl false) H') (m0 + 1) s5 := by
      refine ⟨gen (pl := []) I5, I5.nolimit, I5.bare, _, hg5, fun s' r => ⟨rfl, ?_⟩⟩
      have lp := loop m0 (m0 + 1) 0 s' s' H3 (Nat.lt_succ_self _) hw0 (r.inv I5) (by rw [r.heap]; exact ht5) nfp (Nat.le_trans hz5 r.size)
      show Seg (model X.prog X.w) _ _ _ _ s' _ ((compStart (.GeneratorExp elt [⟨tg, iter, [], 0⟩] scope gpos) 0 (.ref it) .none ce).onRaise (leaving ce)) [] s'
      unfold compStart
      rw [Sem.onRaise_eq_wrap]
      show Seg (model X.prog X.w) _ _ _ _ s' _ ((ask >>= _).wrap _ _ _ _) [] s'
      refine seg_bind_wrap (wpAny_askSetting ?_)
      have ts : tn 0 s'.heap := by rw [r.heap]; exact ht5
      split
      · exact seg_again rfl lp
      · first
          | exact seg_bind_wrap (wpAny_rule (seg_bind_wrap (wpAny_standAt (seg_bind_wrap (T.self _ 0 s' _ _ ts (seg_again rfl lp))))))
          | (refine seg_bind_wrap (wpAny_rule ?_); show Seg (model X.prog X.w) _ _ _ _ s' _ ((standAt iter.pos >>= _).wrap _ _ _ _) [] s'; exact seg_bind_wrap (wpAny_standAt (seg_bind_wrap (T.self _ 0 s' _ _ ts (seg_again rfl lp)))))
    refine call_function_tree PySem.F.kind_all PySem.F.plain_all PySem.F.entry_all (PySem.F.args_all1 _) ?_
    unfold Builtin.«all»
    refine wpAny_bind (m := oneArg "all" _) (wpAny_pure ?_)
    refine wpAny_bind (wpAny_pyIter_gen (gen (pl := []) I5) ?_)
    refine wpAny_pure ⟨plainId_quiet PySem.F.plain_all_loop _, codeAny_mono (all_loop hh hr.depth (mono true) (mono false) (m0 + 1) s5 wt) fun r s' hq => ?_⟩
    rcases hq with ⟨rfl, H', J, q⟩ | ⟨rfl, H', J, q⟩
    · exact ⟨.bl true, H', J, rfl, q⟩
    · exact ⟨.bl false, H', J, rfl, q⟩
  cases hf : codeAmong gpos ps.toList with
  | none =>
    refine wpAny_genexprCodeX hcode (cd.code hPs ht) (cd.tab hPs) hf fun c' h' tk hx hge hlt hco' _ htab' _ => ?_
    obtain ⟨o1, vs, f1, tf, fl, tg1, inF, tx, tt, op, _, _, _, _, _, _, _, _, _, htr, _⟩ := hco'
    exact cont _ h' tk _ (Nat.le_trans hge (Nat.le_of_lt hlt)) (fun b o hb e => hx b o hb e) htab'.2 htr
  | some cv =>
    refine wpAny_genexprCode_hit hcode (cd.code hPs ht) hf ?_
    have := cont cv s2.heap s2.toks #[] (Nat.le_refl _) (fun _ _ _ e => e) (by rw [hPs]; simp) (by simpa using ht)
    exact this
end
section
variable {prog : Program} {w : World} {A : Around} {gi : Nat} {a : Addr} {End Fin : Shared → Prop}
theorem any_loop (hh : A.handled = none) (hroom : A.depth < recursionLimit)
    (hE : ∀ s s' : Shared, End s → s'.os = s.os → AllBare s'.gens → (∀ b o, s.heap.get? b = some o → s'.heap.get? b = some o) → End s')
    (hF : ∀ s s' : Shared, Fin s → s'.os = s.os → AllBare s'.gens → (∀ b o, s.heap.get? b = some o → s'.heap.get? b = some o) → Fin s') :
    ∀ (n : Nat) (s : Shared), Waits prog w A.in1 gi a true End Fin n s →
      codeAny (model prog w) A (.builtin "any.loop" ⟨[.ref a], []⟩) (fun r s' => (r = .ok (.ret (.bool false)) ∧ End s') ∨ (r = .ok (.ret (.bool true)) ∧ Fin s')) s := by
  intro n
  induction n using Nat.strongRecOn with
  | ind n ih =>
    intro s W
    refine codeAny_builtin PySem.F.entry_any_loop ?_
    rw [Around.under_plainId PySem.F.plain_any_loop]
    show wpAny (model prog w) A.in1 (pyNext (.ref a) >>= _) _ _ s
    refine wpAny_bind (waits_next (A := A.in1) hh hroom hE hF W (fun s' e => ?_) (fun s' e => ?_) fun s' m hm W' => ?_)
    · exact wpAny_bind (wpAny_rule (wpAny_pure (.inl ⟨rfl, e⟩)))
    · refine wpAny_bind (wpAny_holding (wpAny_truthy_bool ?_))
      refine wpAny_bind (wpAny_letGo ?_)
      exact wpAny_bind (wpAny_rule (wpAny_pure (.inr ⟨rfl, e⟩)))
    · refine wpAny_bind (wpAny_holding (wpAny_truthy_bool ?_))
      refine wpAny_bind (wpAny_letGo ?_)
      exact wpAny_pure ⟨plainId_quiet PySem.F.plain_any_loop _, ih m hm s' W'⟩
end
/-! ### any(elt for target in iter) -/
/-- the reading: W by the turn and a measure; P: the def's table, which may grow -/
def tAny (P : Addr) (wi : TI) (g : TG) (te : TE) (vs : List Nat) : TE := fun σ H Q => wi σ H fun J H1 => GxR.TabG H1 P ∧ ∃ W : Nat → Nat → Hp → Prop, (∀ H2, GxR.Tabbed P H1 H2 → ∃ m, W 0 m H2) ∧ ∀ i m H, W i m H →
  (J.stop i H ∧ Q (.bl false) H) ∨ (J.go i H ∧ ∃ Nx : Hp → Prop, (∀ H', Nx H' → ∃ m', m' < m ∧ W (i + 1) m' H') ∧ ∀ x H', J.yld i H x H' → g x (wipe σ vs) H' fun σ2 H2 => wipe σ2 vs = wipe σ vs ∧
    te σ2 H2 fun y H3 => ∃ b, y = .bl b ∧ if b = false then Nx H3 else Q (.bl true) H3)
section
variable {X : Cx}
theorem pe_any {k : Nat} {c P : Addr} {elt tg iter : Expr} {scope : Scope} {own : List (Str × Nat)} {p pos gpos : Pos} {wi : TI} {g : TG} {te : TE}
    (hr : Room (k + 1) X.A) (TB : GxR.TabB X.base X.mg c P) (hcode : X.env.code = .ref c) (hc : X.calm = true) (hN : X.N.Nodup) (hG : Gl X "any") (hM : X.mg "any" = none) (hi : PI X tg iter wi) (ok : BlkOk X.N X.env.scope scope own) (gk : GnOk scope) (hdN : (".0" : Str) ∉ X.N)
    (hg : ∀ (s : Shared) (H : Hp) (A' : Around) (C : Addr) (cl : List (Str × Addr)) (code : Value) (fp : List Addr), PG (gX X s H A' (genEnv scope cl C code builtinsNs X.env) fp) tg g)
    (he : ∀ (s : Shared) (H : Hp) (A' : Around) (C : Addr) (cl : List (Str × Addr)) (code : Value) (fp : List Addr), Room k A' → PE (gX X s H A' (genEnv scope cl C code builtinsNs X.env) fp) elt te)
    (hs : ∀ v, genFold iter X.env v = pure v := by intro _; rfl)
    (hst : starEach [.GeneratorExp elt [⟨tg, iter, [], 0⟩] scope gpos] X.env = (false, eval (.GeneratorExp elt [⟨tg, iter, [], 0⟩] scope gpos) X.env) :: starEach [] X.env := by rfl) :
    PE X (.Call (.Name "any" p) [.GeneratorExp elt [⟨tg, iter, [], 0⟩] scope gpos] [] pos) (tAny P wi g te (own.map (·.2))) := by
  refine ⟨fun pins s σ H Q I h => ?_⟩
  have hh : X.A.handled = none := hr.hd
  refine wpAny_Call_Name_kw (ld_blt I hG hM PyProof.Rows.boot_any ?_)
  refine PyProof.Rows.callWith_builtin1 ?_ hst (by rfl)
  rw [hst]
  show wpAny _ _ (spliced ((false, eval (.GeneratorExp elt [⟨tg, iter, [], 0⟩] scope gpos) X.env) :: backTo pos (starEach [] X.env))) _ _ s
  have hfree : ∀ y ∈ scope.names, y.2 = .free → ∃ c, X.env.cells.lookup y.1 = some c := fun y hy e =>
    (ok.free y hy e).elim (fun k => I.ok.has _ (.inl k)) fun k => I.ok.has _ (.inr k)
  refine Calls.spliced_cons (wpAny_GeneratorExp_make gk.co (closure_ok hfree) gk.nocell gk.dot ok.kind (by have := hr.dp; omega) (thn (hi.run pins s σ H _ I h) fun xv s1 hx => thn hx fun itv s2 h2 => ?_) hs)
  obtain ⟨it, fp, tn, J, H2, e, I2, T, st2, f2, ⟨ps, hP, ht⟩, W, w0, turn⟩ := h2
  subst e
  refine ⟨I2.nolimit, ?_⟩
  have hPs : s2.heap.get? P = some { cls := .none, data := .fields ps } := I2.hok P _ hP
  have cd : PySem.W.CodeHd s2.heap c P := TB.code.keeps fun b u e => I2.bk b u e
  have sz2 : ∀ b ∈ fp, b < s2.heap.objs.size := fun b hb => by
    obtain ⟨o, e, _⟩ := T.obj _ _ st2 b hb
    exact Heap.lt_size e
  have nfP : ∀ b ∈ fp, b ≠ P := fun b hb z => by
    have q := (f2 b hb).1
    rw [z, hP] at q
    cases q
  -- behind the table
  have cont : ∀ (code : Value) (h3 : Heap) (tk : Nat) (more : Array Value), s2.heap.objs.size ≤ h3.objs.size → (∀ b o, b ≠ P → s2.heap.get? b = some o → h3.get? b = some o) → h3.get? P = some { cls := .none, data := .fields (ps ++ more) } → TriplesOk (ps ++ more).toList →
      wpAny (model X.prog X.w) X.A (builtinsFor X.env.globals X.env.builtins) (fun bi s4 => ∀ h', h'.Ns s4.heap.objs.size (fun y => if y = ".0" then some (.ref it) else none) → Heap.SameBut s4.heap.objs.size (s4.heap.push { cls := .type "frame", data := .dict #[] }) h' →
        wpAny (model X.prog X.w) X.A (spliced (backTo pos (starEach [] X.env))) (fun vs s5 => wpAny (model X.prog X.w) X.A (call (.builtin "any") (.ref h'.objs.size :: vs)) (EP X pins σ Q) X.xe s5) X.xe { s4 with
            gens := s4.gens.push (.fresh (.compStart (.GeneratorExp elt [⟨tg, iter, [], 0⟩] scope gpos) 0 (.ref it) .none (genEnv scope (cloFrom X.env.cells scope.names []) s4.heap.objs.size code bi X.env))), toks := s4.toks + 1 + 1 + 1,
            heap := h'.push { cls := .type "generator", data := .fields #[.int s4.gens.size 0, .str "<genexpr>" (s4.toks + 1), .str (X.env.qual ++ "<genexpr>") (s4.toks + 1 + 1)] } }) X.xe { s2 with heap := h3, toks := tk } := by
    intro code h3 tk more hle3 hk3 hP3 ht3
    have I3 : Inv X pins σ (upd H2 P (.tbl (ps ++ more))) { s2 with heap := h3, gens := s2.gens, drawn := s2.drawn, toks := tk } := GxR.inv_tab I2 hP hk3 hP3 I2.bare
    have tab3 : GxR.Tabbed P H2 (upd H2 P (.tbl (ps ++ more))) := ⟨⟨_, upd_same, ht3⟩, fun b hb => upd_ne hb⟩
    have st3 : tn 0 h3 := T.keep _ _ _ st2 fun b hb o e => hk3 b o (nfP b hb) e
    have f3 : ∀ b ∈ fp, FpOk X pins (upd H2 P (.tbl (ps ++ more))) b := fun b hb => ⟨by rw [upd_ne (nfP b hb)]; exact (f2 b hb).1, (f2 b hb).2⟩
    generalize upd H2 P (.tbl (ps ++ more)) = H3 at I3 tab3 f3
    obtain ⟨m0, hw0⟩ := w0 H3 tab3
    have sz3 : ∀ b ∈ fp, b < h3.objs.size := fun b hb => Nat.lt_of_lt_of_le (sz2 b hb) hle3
    have hs3 : ({ s2 with heap := h3, gens := s2.gens, drawn := s2.drawn, toks := tk } : Shared) = { s2 with heap := h3, toks := tk } := rfl
    rw [hs3] at I3
    generalize hsh : ({ s2 with heap := h3, toks := tk } : Shared) = s3 at I3 ⊢
    have eh : h3 = s3.heap := by rw [← hsh]
    rw [eh] at st3 sz3
    clear hsh hs3 eh hP3 hk3 hle3
    obtain ⟨bm, ob, e1, e2, e3, e4, e5, e6, e7, e8⟩ := TB.bm
    refine wpAny_builtinsFor (m := X.mg) (by rw [I3.ok.glob]; exact I3.mod.glob.keeps I3.bk) e1 e2 (I3.bk _ _ e5) e6 e7 e8 ?_
    intro h' hn' hs'
    refine Calls.spliced_nil ?_
    have hsz : h'.objs.size = s3.heap.objs.size + 1 := by rw [hs'.1, Heap.size_push]
    generalize hgo : ({ cls := .type "generator", data := .fields #[.int s3.gens.size 0, .str "<genexpr>" (s3.toks + 1), .str (X.env.qual ++ "<genexpr>") (s3.toks + 1 + 1)] } : Obj) = go
    have kp5 : ∀ b o, s3.heap.get? b = some o → (h'.push go).get? b = some o := fun b o e => Heap.get?_push_of_some _ (hs'.extBut b o (Nat.ne_of_lt (Heap.lt_size e)) (Heap.get?_push_of_some _ e))
    generalize hce : genEnv scope (cloFrom X.env.cells scope.names []) s3.heap.objs.size code builtinsNs X.env = ce
    have hhA : (X.A.in1.in1.over (.compLoop (.GeneratorExp elt [⟨tg, iter, [], 0⟩] scope gpos) 0 (.ref it) .none ce) []).handled = none := hh
    have hFr : (X.A.in1.in1.over (.compLoop (.GeneratorExp elt [⟨tg, iter, [], 0⟩] scope gpos) 0 (.ref it) .none ce) []).frames = some (ce :: X.stack) := by
      show pushEnvs [ce] (pushEnvs [] X.A.frames) = _
      rw [I3.ok.frames]
      rfl
    have hRm : Room k (X.A.in1.in1.over (.compLoop (.GeneratorExp elt [⟨tg, iter, [], 0⟩] scope gpos) 0 (.ref it) .none ce) []) := by
      have z1 := hr.dp
      have z2 := hr.un
      refine ⟨hhA, ?_, ?_⟩
      · show X.A.depth + 0 + 1 + 3 * k + 5 < recursionLimit
        omega
      · show X.A.units + 1 + 1 + 0 + 3 + 16 * k + 200 < cLine
        omega
    generalize hAg : X.A.in1.in1.over (.compLoop (.GeneratorExp elt [⟨tg, iter, [], 0⟩] scope gpos) 0 (.ref it) .none ce) [] = Ag at hhA hFr hRm
    have I5 : Inv (gX X s3 H3 Ag ce fp) [(h'.objs.size, go)] (wipe σ (own.map (·.2))) H3 { s3 with heap := h'.push go, gens := s3.gens.push (.fresh (.compStart (.GeneratorExp elt [⟨tg, iter, [], 0⟩] scope gpos) 0 (.ref it) .none ce)), toks := s3.toks + 1 + 1 + 1 } := by
      have q := gen_start (code := code) (A' := Ag) (h5 := h'.push go) (g5 := s3.gens.push (.fresh (.compStart (.GeneratorExp elt [⟨tg, iter, [], 0⟩] scope gpos) 0 (.ref it) .none ce))) (t5 := s3.toks + 1 + 1 + 1) (go := go) I3 ok gk hN (fun b hb => ⟨f3 b hb, sz3 b hb⟩) hhA (by rw [hce]; exact hFr) kp5 (hn'.push _)
        (fun x hx => if_neg hx) hdN (I3.bare.push rfl) (a := h'.objs.size) (by omega) (Heap.get?_push_size _ (by rw [← hgo]; rfl)) (by rw [← hgo]; intro v z; cases z)
      rw [hce] at q
      exact q
    have st5 : tn 0 (h'.push go) := T.keep _ _ _ st3 fun b _ o e => kp5 b o e
    have nfp : ∀ b ∈ fp, H3 b = none := fun b hb => (f3 b hb).1
    have pg := hg s3 H3 Ag s3.heap.objs.size (cloFrom X.env.cells scope.names []) code fp
    have pe := he s3 H3 Ag s3.heap.objs.size (cloFrom X.env.cells scope.names []) code fp hRm
    rw [hce] at pg pe
    have cCo : ce.scope.isCoroutine = false := by rw [← hce]; exact gk.co
    clear hn' hs' kp5 w0 hce
    -- back in the def's context
    have back : ∀ {σ' : L2.St} {H' : Hp} {s' : Shared} {pl : List (Addr × Obj)}, Inv (gX X s3 H3 Ag ce fp) pl σ' H' s' → Inv X pins σ H' s' := fun {σ' H' s' pl} J => I3.call' (ch := fp) J.os J.base J.hok J.bare fun b hb =>
      ⟨(f3 b hb).2.2.2.1, (f3 b hb).2.1, (f3 b hb).2.2.2.2.1, (f3 b hb).2.2.2.2.2⟩
    have stat : ∀ {σ' : L2.St} {H' : Hp} {s' : Shared}, Inv (gX X s3 H3 Ag ce fp) [(h'.objs.size, go)] σ' H' s' → (∀ b ∈ fp, H' b = none) → ∀ b ∈ fp, FpOk (gX X s3 H3 Ag ce fp) [(h'.objs.size, go)] H' b := fun {σ' H' s'} J hn b hb =>
      ⟨hn b hb, (J.ok.exf b hb).1, J.ok.exfs b hb, .inl hb, fun x c e => (J.ok.exf b hb).2 x c e, fun p hp => by
        have hp : p = (h'.objs.size, go) := by simpa using hp
        rw [hp]
        exact Nat.ne_of_gt (Nat.lt_trans (sz3 b hb) (by rw [hsz]; exact Nat.lt_succ_self _))⟩
    have gen : ∀ {σ' : L2.St} {H' : Hp} {s' : Shared} {pl : List (Addr × Obj)}, Inv (gX X s3 H3 Ag ce fp) ([(h'.objs.size, go)] ++ pl) σ' H' s' → s'.heap.IsGen h'.objs.size s3.gens.size := fun {σ' H' s' pl} J => by
      have q := (J.pin (h'.objs.size, go) (by simp)).1
      exact ⟨go, _, _, q, by rw [← hgo], by rw [← hgo], by rw [← hgo]⟩
    -- the turns
    have loop : ∀ (m n i : Nat) (s₀ s : Shared) (H : Hp), m < n → W i m H → Inv (gX X s3 H3 Ag ce fp) [(h'.objs.size, go)] (wipe σ (own.map (·.2))) H s → tn i s.heap → (∀ b ∈ fp, H b = none) → s3.gens.size + 1 ≤ s.gens.size →
        Seg (model X.prog X.w) X.A.in1.in1 (fun n s₀ r s₁ => r = .ok .next ∧ gR (fun s => ∃ H', Inv X pins σ H' s ∧ Q (.bl false) H') n s₀ s₁) (gY s3.gens.size h'.objs.size true fun s => ∃ H', Inv X pins σ H' s ∧ Q (.bl true) H') n s₀
          (.compLoop (.GeneratorExp elt [⟨tg, iter, [], 0⟩] scope gpos) 0 (.ref it) .none ce) ((model X.prog X.w).den (.compLoop (.GeneratorExp elt [⟨tg, iter, [], 0⟩] scope gpos) 0 (.ref it) .none ce)) [] s := by
      intro m
      induction m using Nat.strongRecOn with
      | ind m ih =>
        intro n i s₀ s H hmn w J st nf hz
        show Seg (model X.prog X.w) _ _ _ n s₀ _ ((compTurn (.GeneratorExp elt [⟨tg, iter, [], 0⟩] scope gpos) 0 (.ref it) .none ce).onRaise (leaving ce)) [] s
        rw [compTurn_gen]
        rw [Sem.onRaise_eq_wrap]
        refine seg_bind_wrap (wpAny_standAt (seg_bind_wrap ?_))
        rw [hAg]
        rcases turn i m H w with ⟨stp, qq⟩ | ⟨go', Nx, hNx, step⟩
        · refine thnF (T.done (gX X s3 H3 Ag ce fp) rfl rfl rfl hc i _ s _ H (fun _ _ => False) J (stat J nf) st stp) fun r s6 ⟨hr6, J6⟩ => ?_
          subst hr6
          exact seg_end (.ok .next) ⟨rfl, J6.bare, H, back J6, qq⟩
        · refine GenW.wpAny_gsz hz (thnF (T.item (gX X s3 H3 Ag ce fp) rfl rfl rfl hc i _ s _ H (fun _ _ => False) J (stat J nf) st go') fun r s6 ⟨u, hr6, h6⟩ hz6 => ?_)
          subst hr6
          refine seg_bind_wrap ?_
          rw [hAg]
          refine GenW.wpAny_gsz hz6 (thnF h6 fun _ s7 ⟨x, H7, J7, r7, y7, st7, n7⟩ hz7 => ?_)
          have J7' := J7.pinned (stat J7 n7) (T.obj _ _ st7)
          refine seg_bind_wrap ?_
          rw [hAg]
          refine GenW.wpAny_gsz hz7 (thnF (pg.run _ s7 _ H7 x u _ J7' r7 (step x H7 y7)) fun _ s8 ⟨σ8, H8, J8, hw8, q8⟩ hz8 => ?_)
          simp only [List.forIn_nil]
          refine seg_bind_wrap (wpAny_pure ?_)
          simp only [if_true]
          have hy : ∀ v, yieldOut ce v = yieldValue v := fun v => by simp only [yieldOut, cCo, Bool.false_eq_true, if_false]
          simp only [hy]
          rw [Sem.bind_eq_wrap', Sem.bind_eq_wrap']
          rw [Sem.wrap_wrap, Sem.wrap_wrap]
          refine seg_wrap ?_
          rw [hAg]
          refine GenW.wpAny_gsz hz8 (thnF (pe.run _ s8 σ8 H8 _ J8 q8) fun z s9 ⟨yv, H9, J9, r9, b, eb, qb⟩ hz9 => ?_)
          subst eb
          obtain rfl : z = Value.bool b := r9
          obtain ⟨n', rfl⟩ : ∃ n', n = n' + 1 := ⟨n - 1, by omega⟩
          refine seg_at (seg_yield rfl rfl rfl ⟨b, rfl, gen J9, J9.nolimit, J9.bare, hz9, fun e => ?_, fun e s' r => ?_⟩)
          · subst e
            exact ⟨H9, back J9, qb⟩
          · have e : b = false := by
              cases b with
              | false => rfl
              | true => exact absurd rfl e
            subst e
            rw [if_pos rfl] at qb
            obtain ⟨m', hm', w'⟩ := hNx H9 qb
            have pin' : ∀ b ∈ fp, ∀ o, s7.heap.get? b = some o → s9.heap.get? b = some o ∧ H9 b = none := fun b hb o e =>
              let z := J9.pin (b, o) (List.mem_append_right _ (List.mem_append_right _ (mem_pinsAt hb e)))
              ⟨z.1, z.2.1⟩
            have hl : (wipe σ (own.map (·.2))).length = σ8.length := by rw [← hw8, wipe_length]
            have K9 : Inv (gX X s3 H3 Ag ce fp) [(h'.objs.size, go)] (wipe σ (own.map (·.2))) H9 s9 := J9.unpinned.weak hl fun j v e => by
              rw [← hw8] at e
              exact (wipe_some e).1
            refine seg_again rfl (ih m' hm' n' (i + 1) s' s' H9 (by omega) w' (r.inv K9) ?_ (fun b hb => ?_) (Nat.le_trans hz9 r.size))
            · rw [r.heap]
              exact T.keep _ _ _ st7 fun b hb o e => (pin' b hb o e).1
            · obtain ⟨o, e, _⟩ := T.obj _ _ st7 b hb
              exact (pin' b hb o e).2
    have mono : ∀ (b : Bool) (s s' : Shared), (∃ H', Inv X pins σ H' s ∧ Q (.bl b) H') → s'.os = s.os → AllBare s'.gens → (∀ b o, s.heap.get? b = some o → s'.heap.get? b = some o) → ∃ H', Inv X pins σ H' s' ∧ Q (.bl b) H' := fun b s s' ⟨H', J, q⟩ h1 h2 h3 =>
      ⟨H', inv_gens (J.kept (t' := s'.toks) h3) rfl h1 h2, q⟩
    generalize hs5 : ({ s3 with heap := h'.push go, gens := s3.gens.push (.fresh (.compStart (.GeneratorExp elt [⟨tg, iter, [], 0⟩] scope gpos) 0 (.ref it) .none ce)), toks := s3.toks + 1 + 1 + 1 } : Shared) = s5 at I5
    have hg5 : s5.gens[s3.gens.size]? = some (.fresh (.compStart (.GeneratorExp elt [⟨tg, iter, [], 0⟩] scope gpos) 0 (.ref it) .none ce)) := by
      rw [← hs5]
      exact Array.getElem?_push_size ..
    have hz5 : s3.gens.size + 1 ≤ s5.gens.size := by
      rw [← hs5]
      exact Nat.le_of_eq (Array.size_push ..).symm
    have ht5 : tn 0 s5.heap := by rw [← hs5]; exact st5
    have wt : Waits X.prog X.w X.A.in1 s3.gens.size h'.objs.size true (fun s => ∃ H', Inv X pins σ H' s ∧ Q (.bl false) H') (fun s => ∃ H', Inv X pins σ H' s ∧ Q (.bl true) H') (m0 + 1) s5 := by
      refine ⟨gen (pl := []) I5, I5.nolimit, I5.bare, _, hg5, fun s' r => ⟨rfl, ?_⟩⟩
      have lp := loop m0 (m0 + 1) 0 s' s' H3 (Nat.lt_succ_self _) hw0 (r.inv I5) (by rw [r.heap]; exact ht5) nfp (Nat.le_trans hz5 r.size)
      show Seg (model X.prog X.w) _ _ _ _ s' _ ((compStart (.GeneratorExp elt [⟨tg, iter, [], 0⟩] scope gpos) 0 (.ref it) .none ce).onRaise (leaving ce)) [] s'
      unfold compStart
      rw [Sem.onRaise_eq_wrap]
      show Seg (model X.prog X.w) _ _ _ _ s' _ ((ask >>= _).wrap _ _ _ _) [] s'
      refine seg_bind_wrap (wpAny_askSetting ?_)
      have ts : tn 0 s'.heap := by rw [r.heap]; exact ht5
      split
      · exact seg_again rfl lp
      · first
          | exact seg_bind_wrap (wpAny_rule (seg_bind_wrap (wpAny_standAt (seg_bind_wrap (T.self _ 0 s' _ _ ts (seg_again rfl lp))))))
          | (refine seg_bind_wrap (wpAny_rule ?_); show Seg (model X.prog X.w) _ _ _ _ s' _ ((standAt iter.pos >>= _).wrap _ _ _ _) [] s'; exact seg_bind_wrap (wpAny_standAt (seg_bind_wrap (T.self _ 0 s' _ _ ts (seg_again rfl lp)))))
    refine call_function_tree PySem.F.kind_any PySem.F.plain_any PySem.F.entry_any (PySem.F.args_any1 _) ?_
    unfold Builtin.«any»
    refine wpAny_bind (m := oneArg "any" _) (wpAny_pure ?_)
    refine wpAny_bind (wpAny_pyIter_gen (gen (pl := []) I5) ?_)
    refine wpAny_pure ⟨plainId_quiet PySem.F.plain_any_loop _, codeAny_mono (any_loop hh hr.depth (mono false) (mono true) (m0 + 1) s5 wt) fun r s' hq => ?_⟩
    rcases hq with ⟨rfl, H', J, q⟩ | ⟨rfl, H', J, q⟩
    · exact ⟨.bl false, H', J, rfl, q⟩
    · exact ⟨.bl true, H', J, rfl, q⟩
  cases hf : codeAmong gpos ps.toList with
  | none =>
    refine wpAny_genexprCodeX hcode (cd.code hPs ht) (cd.tab hPs) hf fun c' h' tk hx hge hlt hco' _ htab' _ => ?_
    obtain ⟨o1, vs, f1, tf, fl, tg1, inF, tx, tt, op, _, _, _, _, _, _, _, _, _, htr, _⟩ := hco'
    exact cont _ h' tk _ (Nat.le_trans hge (Nat.le_of_lt hlt)) (fun b o hb e => hx b o hb e) htab'.2 htr
  | some cv =>
    refine wpAny_genexprCode_hit hcode (cd.code hPs ht) hf ?_
    have := cont cv s2.heap s2.toks #[] (Nat.le_refl _) (fun _ _ _ e => e) (by rw [hPs]; simp) (by simpa using ht)
    exact this
end
/-! ### sum(..) of a generator, told by what each turn does -/
def HoldsZ (S : Addr) (s : Shared) (z : Int) : Prop := ∃ t c, s.heap.get? S = some { cls := .type "list", dict := none, data := .seq #[.int z t] c, slots := #[] }
theorem HoldsZ.inj {S : Addr} {s : Shared} {y z : Int} (h : HoldsZ S s y) (g : HoldsZ S s z) : y = z := by
  obtain ⟨t, c, h⟩ := h
  obtain ⟨t', c', g⟩ := g
  rw [h] at g
  have e := Option.some.inj g
  have e2 : (#[Value.int y t] : Array Value) = #[Value.int z t'] := by
    injection e with _ _ e3 _
    injection e3
  have e4 := congrArg (fun a : Array Value => a[0]?) e2
  simp at e4
  exact e4.1
/-- between a yield and the next turn: the total is told anew -/
structure RsS (S : Addr) (s s' : Shared) : Prop where
  keep : ∀ b o, b ≠ S → s.heap.get? b = some o → s'.heap.get? b = some o
  os : s'.os = s.os
  bare : AllBare s'.gens
  size : s.gens.size ≤ s'.gens.size
theorem RsS.inv {X : Cx} {pins : List (Addr × Obj)} {σ : L2.St} {H : Hp} {s s' : Shared} {S : Addr} (r : RsS S s s') (I : Inv X pins σ H s) (f : FpOk X pins H S) : Inv X pins σ H s' := by
  have J := I.turnedL (h' := s'.heap) (t' := s'.toks) (ch := [S]) (fun b o hb e => r.keep b o (fun z => hb (by rw [z]; simp)) e) (fun b hb => by rw [List.mem_singleton.mp hb]; exact f)
  exact inv_gens J rfl r.os r.bare
def gYs (gi : Nat) (a S : Addr) : Protocol := fun _ s₀ v s kap =>
  ∃ y t, v = .int y t ∧ s.heap.get? S = s₀.heap.get? S ∧ AllBare s.gens ∧ gi < s.gens.size ∧ (∀ z s', HoldsZ S s₀ z → RsS S s s' → HoldsZ S s' (z + y) → s'.heap.NoLimit ∧ s'.heap.IsGen a gi ∧ kap (.send .none) s')
def gRs (S : Addr) (Fin : Int → Shared → Prop) : Nat → Shared → Shared → Prop := fun _ s₀ s => AllBare s.gens ∧ ∀ z, HoldsZ S s₀ z → Fin z s
/-- the generator waits -/
def WaitsS (prog : Program) (w : World) (A : Around) (gi : Nat) (a S : Addr) (Fin : Int → Shared → Prop) (n : Nat) (s : Shared) : Prop :=
  s.heap.IsGen a gi ∧ s.heap.NoLimit ∧ AllBare s.gens ∧ ∃ gs, s.gens[gi]? = some gs ∧
    ∀ s', Rs s s' → gs.Goes (model prog w) A.in1 (fun n s₀ r s₁ => r = .ok .next ∧ gRs S Fin n s₀ s₁) (gYs gi a S) n (.send .none) s'
section
variable {prog : Program} {w : World} {A : Around} {gi : Nat} {a S : Addr} {Fin : Int → Shared → Prop}
theorem HoldsZ.of {s s' : Shared} {z : Int} (h : HoldsZ S s z) (e : s'.heap = s.heap) : HoldsZ S s' z := by
  obtain ⟨t, c, h⟩ := h
  exact ⟨t, c, by rw [e]; exact h⟩
theorem waitsS_next {n : Nat} {s : Shared} {Q : Option Value → Shared → Prop} {E : Value → Shared → Prop} (hh : A.handled = none) (hroom : A.depth < recursionLimit)
    (hF : ∀ z, ∀ s s' : Shared, Fin z s → s'.os = s.os → AllBare s'.gens → (∀ b o, s.heap.get? b = some o → s'.heap.get? b = some o) → Fin z s')
    (hz0 : ∃ z, HoldsZ S s z) (W : WaitsS prog w A gi a S Fin n s) (hN : ∀ s', (∀ z, HoldsZ S s z → Fin z s') → Q none s')
    (hG : ∀ s' y t m, m < n → s'.heap.get? S = s.heap.get? S → AllBare s'.gens → (∀ z s'', HoldsZ S s z → RsS S s' s'' → s''.gens = s'.gens → HoldsZ S s'' (z + y) → WaitsS prog w A gi a S Fin m s'') → Q (some (.int y t)) s') : wpAny (model prog w) A (pyNext (.ref a)) Q E s := by
  obtain ⟨hg, hl, hb, gs, hgs, hgo⟩ := W
  refine wpAny_pyNext_genexpQ (P := gRs S Fin) (Y := gYs gi a S) hh hl hroom hg hgs (hgo _ (Rs.set hb rfl)) (fun v s₁ gs' hb' hv => ?_) fun s₁ hp h' hk => ?_
  · obtain ⟨y, t, rfl, hS, b1, z1, k1⟩ := hv
    cases n with
    | zero =>
      obtain ⟨z, tt, c, hz⟩ := hz0
      have hz1 : s₁.heap.get? S = _ := hS.trans hz
      exact False.elim (k1 z { s₁ with heap := s₁.heap.update S (Obj.mapSeq fun _ => #[.int (z + y) 0]) } ⟨tt, c, hz⟩ ⟨fun b o hb e => (Heap.get?_update_other _ _ (Ne.symm hb)).trans e, rfl, b1, Nat.le_refl _⟩ ⟨_, _, Heap.get?_update_self _ hz1 rfl⟩).2.2
    | succ m =>
      refine hG _ y t m (Nat.lt_succ_self m) hS (bare_set b1 hb') fun z s'' hz r eg hz' => ?_
      have r1 : RsS S s₁ s'' := ⟨r.keep, r.os, r.bare, Nat.le_trans (Nat.le_of_eq (GenW.setGen_size s₁ gi gs').symm) r.size⟩
      obtain ⟨l2, g2, _⟩ := k1 z s'' (hz.of rfl) r1 hz'
      refine ⟨g2, l2, r.bare, gs', ?_, fun s3 r3 => (k1 z s3 (hz.of rfl) ⟨fun b o hb e => by rw [r3.heap]; exact r.keep b o hb e, r3.os.trans r.os, r3.bare, Nat.le_trans r1.size r3.size⟩ (hz'.of r3.heap)).2.2⟩
      rw [eg]
      show (s₁.gens.setIfInBounds gi gs')[gi]? = some gs'
      rw [Array.getElem?_setIfInBounds_self_of_lt z1]
  · obtain ⟨b1, e1⟩ := hp
    exact hN _ fun z hz => hF z _ _ (e1 z (hz.of rfl)) rfl (bare_set b1 rfl) fun b o q => hk b o q
theorem sum_loopS (hh : A.handled = none) (hroom : A.depth < recursionLimit)
    (hF : ∀ z, ∀ s s' : Shared, Fin z s → s'.os = s.os → AllBare s'.gens → (∀ b o, s.heap.get? b = some o → s'.heap.get? b = some o) → Fin z s') :
    ∀ (n : Nat) (s : Shared) (st z : Int), (st = 0 ∨ st = 2) → HoldsZ S s z → WaitsS prog w A.in1 gi a S Fin n s →
      codeAny (model prog w) A (.builtin "sum.loop" ⟨[.ref a, .ref S, rawInt st, rawInt 0], []⟩) (fun r s' => ∃ z t, r = .ok (.ret (.int z t)) ∧ Fin z s') s := by
  intro n
  induction n using Nat.strongRecOn with
  | ind n ih =>
    intro s st z hst hz W
    have hz0 := hz
    obtain ⟨tA, c, hS⟩ := hz
    refine codeAny_builtin PySem.F.entry_sum_loop ?_
    rw [Around.under_plainId PySem.F.plain_sum_loop _]
    show wpAny _ A.in1 (seqItems? (.ref S) >>= _) _ _ s
    refine wpAny_bind (wpAny_seqItems hS rfl ?_)
    show wpAny _ A.in1 (tryCatch (pyNext (.ref a)) _ >>= _) _ _ s
    refine wpAny_bind (wpAny_tryCatch (waitsS_next (A := A.in1) hh hroom hF ⟨z, hz0⟩ W (fun s' e => ?_) fun s' y t m hm eS bS W' => ?_))
    · exact wpAny_pure ⟨z, tA, rfl, e z hz0⟩
    have hS' := eS.trans hS
    rcases hst with rfl | rfl
    · show wpAny _ A.in1 (if (_ : Bool) = true then (mkInt (z + y) >>= _) else _) _ _ _
      split
      · refine wpAny_bind (wpAny_mkInt ?_)
        show wpAny _ A.in1 (updateSeq S (fun _ => #[.int (z + y) s'.toks]) >>= _) _ _ _
        refine wpAny_bind ?_
        have hS2 := Heap.get?_update_self (Obj.mapSeq fun _ => #[Value.int (z + y) s'.toks]) hS' rfl
        refine wpAny_updateSeq hS' rfl (wpAny_pure ⟨plainId_quiet PySem.F.plain_sum_loop _, ih m hm _ 0 (z + y) (.inl rfl) ⟨_, _, hS2⟩ (W' z _ hz0 ⟨fun b o hb e => (Heap.get?_update_other _ _ (Ne.symm hb)).trans e, rfl, bS, Nat.le_refl _⟩ rfl ⟨_, _, hS2⟩)⟩)
      · refine wpAny_bind (wpAny_rule ?_)
        refine wpAny_bind (wpAny_attempt (wpAny_holding (wpAny_add_int ?_)))
        show wpAny _ A.in1 (updateSeq S (fun _ => #[.int (z + y) s'.toks]) >>= _) _ _ _
        refine wpAny_bind (wpAny_updateSeq hS' rfl ?_)
        have hS₂ := Heap.get?_update_self (Obj.mapSeq fun _ => #[Value.int (z + y) s'.toks]) hS' rfl
        refine wpAny_bind (wpAny_letGo ?_)
        have hS₃ := Heap.get?_update_self (Obj.mapSeq fun _ => #[Value.int (z + y) s'.toks]) hS₂ rfl
        refine wpAny_bind (wpAny_updateSeq hS₂ rfl (wpAny_pure ⟨plainId_quiet PySem.F.plain_sum_loop _, ih m hm _ 2 (z + y) (.inr rfl) ⟨_, _, hS₃⟩ (W' z _ hz0 ⟨fun b o hb e => (Heap.get?_update_other _ _ (Ne.symm hb)).trans ((Heap.get?_update_other _ _ (Ne.symm hb)).trans e), rfl, bS, Nat.le_refl _⟩ rfl ⟨_, _, hS₃⟩)⟩))
    · show wpAny _ A.in1 ((holding [Value.int y t] (binaryOp .Add (.int z tA) (.int y t))).attempt >>= _) _ _ _
      refine wpAny_bind (wpAny_attempt (wpAny_holding (wpAny_add_int ?_)))
      show wpAny _ A.in1 (updateSeq S (fun _ => #[.int (z + y) s'.toks]) >>= _) _ _ _
      refine wpAny_bind (wpAny_updateSeq hS' rfl ?_)
      have hS₂ := Heap.get?_update_self (Obj.mapSeq fun _ => #[Value.int (z + y) s'.toks]) hS' rfl
      refine wpAny_bind (wpAny_letGo ?_)
      have hS₃ := Heap.get?_update_self (Obj.mapSeq fun _ => #[Value.int (z + y) s'.toks]) hS₂ rfl
      refine wpAny_bind (wpAny_updateSeq hS₂ rfl (wpAny_pure ⟨plainId_quiet PySem.F.plain_sum_loop _, ih m hm _ 2 (z + y) (.inr rfl) ⟨_, _, hS₃⟩ (W' z _ hz0 ⟨fun b o hb e => (Heap.get?_update_other _ _ (Ne.symm hb)).trans ((Heap.get?_update_other _ _ (Ne.symm hb)).trans e), rfl, bS, Nat.le_refl _⟩ rfl ⟨_, _, hS₃⟩)⟩))
end
/-! ### sum(elt for target in iter) -/
/-- the reading: W by the turn, a measure and the total; P: the def's table, which may grow -/
def tSum (P : Addr) (wi : TI) (g : TG) (te : TE) (vs : List Nat) : TE := fun σ H Q => wi σ H fun J H1 => GxR.TabG H1 P ∧ ∃ W : Nat → Nat → Int → Hp → Prop, (∀ H2, GxR.Tabbed P H1 H2 → ∃ m, W 0 m 0 H2) ∧ ∀ i m z H, W i m z H →
  (J.stop i H ∧ Q (.int z) H) ∨ (J.go i H ∧ ∃ Nx : Int → Hp → Prop, (∀ y H', Nx y H' → ∃ m', m' < m ∧ W (i + 1) m' (z + y) H') ∧ ∀ x H', J.yld i H x H' → g x (wipe σ vs) H' fun σ2 H2 => wipe σ2 vs = wipe σ vs ∧
    te σ2 H2 fun v H3 => ∃ y, v = .int y ∧ Nx y H3)
section
variable {X : Cx}
theorem pe_sum {k : Nat} {c P : Addr} {elt tg iter : Expr} {scope : Scope} {own : List (Str × Nat)} {p pos gpos : Pos} {wi : TI} {g : TG} {te : TE}
    (hr : Room (k + 1) X.A) (TB : GxR.TabB X.base X.mg c P) (hcode : X.env.code = .ref c) (hc : X.calm = true) (hN : X.N.Nodup) (hG : Gl X "sum") (hM : X.mg "sum" = none) (hi : PI X tg iter wi) (ok : BlkOk X.N X.env.scope scope own) (gk : GnOk scope) (hdN : (".0" : Str) ∉ X.N)
    (hg : ∀ (s : Shared) (H : Hp) (A' : Around) (C : Addr) (cl : List (Str × Addr)) (code : Value) (fp : List Addr), PG (gX X s H A' (genEnv scope cl C code builtinsNs X.env) fp) tg g)
    (he : ∀ (s : Shared) (H : Hp) (A' : Around) (C : Addr) (cl : List (Str × Addr)) (code : Value) (fp : List Addr), Room k A' → PE (gX X s H A' (genEnv scope cl C code builtinsNs X.env) fp) elt te)
    (hs : ∀ v, genFold iter X.env v = pure v := by intro _; rfl)
    (hst : starEach [.GeneratorExp elt [⟨tg, iter, [], 0⟩] scope gpos] X.env = (false, eval (.GeneratorExp elt [⟨tg, iter, [], 0⟩] scope gpos) X.env) :: starEach [] X.env := by rfl) :
    PE X (.Call (.Name "sum" p) [.GeneratorExp elt [⟨tg, iter, [], 0⟩] scope gpos] [] pos) (tSum P wi g te (own.map (·.2))) := by
  refine ⟨fun pins s σ H Q I h => ?_⟩
  have hh : X.A.handled = none := hr.hd
  refine wpAny_Call_Name_kw (ld_blt I hG hM PyProof.Rows.boot_sum ?_)
  refine PyProof.Rows.callWith_builtin1 ?_ hst (by rfl)
  rw [hst]
  show wpAny _ _ (spliced ((false, eval (.GeneratorExp elt [⟨tg, iter, [], 0⟩] scope gpos) X.env) :: backTo pos (starEach [] X.env))) _ _ s
  have hfree : ∀ y ∈ scope.names, y.2 = .free → ∃ c, X.env.cells.lookup y.1 = some c := fun y hy e =>
    (ok.free y hy e).elim (fun k => I.ok.has _ (.inl k)) fun k => I.ok.has _ (.inr k)
  refine Calls.spliced_cons (wpAny_GeneratorExp_make gk.co (closure_ok hfree) gk.nocell gk.dot ok.kind (by have := hr.dp; omega) (thn (hi.run pins s σ H _ I h) fun xv s1 hx => thn hx fun itv s2 h2 => ?_) hs)
  obtain ⟨it, fp, tn, J, H2, e, I2, T, st2, f2, ⟨ps, hP, ht⟩, W, w0, turn⟩ := h2
  subst e
  refine ⟨I2.nolimit, ?_⟩
  have hPs : s2.heap.get? P = some { cls := .none, data := .fields ps } := I2.hok P _ hP
  have cd : PySem.W.CodeHd s2.heap c P := TB.code.keeps fun b u e => I2.bk b u e
  have sz2 : ∀ b ∈ fp, b < s2.heap.objs.size := fun b hb => by
    obtain ⟨o, e, _⟩ := T.obj _ _ st2 b hb
    exact Heap.lt_size e
  have nfP : ∀ b ∈ fp, b ≠ P := fun b hb z => by
    have q := (f2 b hb).1
    rw [z, hP] at q
    cases q
  -- behind the table
  have cont : ∀ (code : Value) (h3 : Heap) (tk : Nat) (more : Array Value), s2.heap.objs.size ≤ h3.objs.size → (∀ b o, b ≠ P → s2.heap.get? b = some o → h3.get? b = some o) → h3.get? P = some { cls := .none, data := .fields (ps ++ more) } → TriplesOk (ps ++ more).toList →
      wpAny (model X.prog X.w) X.A (builtinsFor X.env.globals X.env.builtins) (fun bi s4 => ∀ h', h'.Ns s4.heap.objs.size (fun y => if y = ".0" then some (.ref it) else none) → Heap.SameBut s4.heap.objs.size (s4.heap.push { cls := .type "frame", data := .dict #[] }) h' →
        wpAny (model X.prog X.w) X.A (spliced (backTo pos (starEach [] X.env))) (fun vs s5 => wpAny (model X.prog X.w) X.A (call (.builtin "sum") (.ref h'.objs.size :: vs)) (EP X pins σ Q) X.xe s5) X.xe { s4 with
            gens := s4.gens.push (.fresh (.compStart (.GeneratorExp elt [⟨tg, iter, [], 0⟩] scope gpos) 0 (.ref it) .none (genEnv scope (cloFrom X.env.cells scope.names []) s4.heap.objs.size code bi X.env))), toks := s4.toks + 1 + 1 + 1,
            heap := h'.push { cls := .type "generator", data := .fields #[.int s4.gens.size 0, .str "<genexpr>" (s4.toks + 1), .str (X.env.qual ++ "<genexpr>") (s4.toks + 1 + 1)] } }) X.xe { s2 with heap := h3, toks := tk } := by
    intro code h3 tk more hle3 hk3 hP3 ht3
    have I3 : Inv X pins σ (upd H2 P (.tbl (ps ++ more))) { s2 with heap := h3, gens := s2.gens, drawn := s2.drawn, toks := tk } := GxR.inv_tab I2 hP hk3 hP3 I2.bare
    have tab3 : GxR.Tabbed P H2 (upd H2 P (.tbl (ps ++ more))) := ⟨⟨_, upd_same, ht3⟩, fun b hb => upd_ne hb⟩
    have st3 : tn 0 h3 := T.keep _ _ _ st2 fun b hb o e => hk3 b o (nfP b hb) e
    have f3 : ∀ b ∈ fp, FpOk X pins (upd H2 P (.tbl (ps ++ more))) b := fun b hb => ⟨by rw [upd_ne (nfP b hb)]; exact (f2 b hb).1, (f2 b hb).2⟩
    generalize upd H2 P (.tbl (ps ++ more)) = H3 at I3 tab3 f3
    obtain ⟨m0, hw0⟩ := w0 H3 tab3
    have sz3 : ∀ b ∈ fp, b < h3.objs.size := fun b hb => Nat.lt_of_lt_of_le (sz2 b hb) hle3
    have hs3 : ({ s2 with heap := h3, gens := s2.gens, drawn := s2.drawn, toks := tk } : Shared) = { s2 with heap := h3, toks := tk } := rfl
    rw [hs3] at I3
    generalize hsh : ({ s2 with heap := h3, toks := tk } : Shared) = s3 at I3 ⊢
    have eh : h3 = s3.heap := by rw [← hsh]
    rw [eh] at st3 sz3
    clear hsh hs3 eh hP3 hk3 hle3
    obtain ⟨bm, ob, e1, e2, e3, e4, e5, e6, e7, e8⟩ := TB.bm
    refine wpAny_builtinsFor (m := X.mg) (by rw [I3.ok.glob]; exact I3.mod.glob.keeps I3.bk) e1 e2 (I3.bk _ _ e5) e6 e7 e8 ?_
    intro h' hn' hs'
    refine Calls.spliced_nil ?_
    have hsz : h'.objs.size = s3.heap.objs.size + 1 := by rw [hs'.1, Heap.size_push]
    generalize hgo : ({ cls := .type "generator", data := .fields #[.int s3.gens.size 0, .str "<genexpr>" (s3.toks + 1), .str (X.env.qual ++ "<genexpr>") (s3.toks + 1 + 1)] } : Obj) = go
    have kp5 : ∀ b o, s3.heap.get? b = some o → (h'.push go).get? b = some o := fun b o e => Heap.get?_push_of_some _ (hs'.extBut b o (Nat.ne_of_lt (Heap.lt_size e)) (Heap.get?_push_of_some _ e))
    generalize hce : genEnv scope (cloFrom X.env.cells scope.names []) s3.heap.objs.size code builtinsNs X.env = ce
    have hhA : (X.A.in1.in1.over (.compLoop (.GeneratorExp elt [⟨tg, iter, [], 0⟩] scope gpos) 0 (.ref it) .none ce) []).handled = none := hh
    have hFr : (X.A.in1.in1.over (.compLoop (.GeneratorExp elt [⟨tg, iter, [], 0⟩] scope gpos) 0 (.ref it) .none ce) []).frames = some (ce :: X.stack) := by
      show pushEnvs [ce] (pushEnvs [] X.A.frames) = _
      rw [I3.ok.frames]
      rfl
    have hRm : Room k (X.A.in1.in1.over (.compLoop (.GeneratorExp elt [⟨tg, iter, [], 0⟩] scope gpos) 0 (.ref it) .none ce) []) := by
      have z1 := hr.dp
      have z2 := hr.un
      refine ⟨hhA, ?_, ?_⟩
      · show X.A.depth + 0 + 1 + 3 * k + 5 < recursionLimit
        omega
      · show X.A.units + 1 + 1 + 0 + 3 + 16 * k + 200 < cLine
        omega
    generalize hAg : X.A.in1.in1.over (.compLoop (.GeneratorExp elt [⟨tg, iter, [], 0⟩] scope gpos) 0 (.ref it) .none ce) [] = Ag at hhA hFr hRm
    have I5 : Inv (gX X s3 H3 Ag ce fp) [(h'.objs.size, go)] (wipe σ (own.map (·.2))) H3 { s3 with heap := h'.push go, gens := s3.gens.push (.fresh (.compStart (.GeneratorExp elt [⟨tg, iter, [], 0⟩] scope gpos) 0 (.ref it) .none ce)), toks := s3.toks + 1 + 1 + 1 } := by
      have q := gen_start (code := code) (A' := Ag) (h5 := h'.push go) (g5 := s3.gens.push (.fresh (.compStart (.GeneratorExp elt [⟨tg, iter, [], 0⟩] scope gpos) 0 (.ref it) .none ce))) (t5 := s3.toks + 1 + 1 + 1) (go := go) I3 ok gk hN (fun b hb => ⟨f3 b hb, sz3 b hb⟩) hhA (by rw [hce]; exact hFr) kp5 (hn'.push _)
        (fun x hx => if_neg hx) hdN (I3.bare.push rfl) (a := h'.objs.size) (by omega) (Heap.get?_push_size _ (by rw [← hgo]; rfl)) (by rw [← hgo]; intro v z; cases z)
      rw [hce] at q
      exact q
    have st5 : tn 0 (h'.push go) := T.keep _ _ _ st3 fun b _ o e => kp5 b o e
    have nfp : ∀ b ∈ fp, H3 b = none := fun b hb => (f3 b hb).1
    have pg := hg s3 H3 Ag s3.heap.objs.size (cloFrom X.env.cells scope.names []) code fp
    have pe := he s3 H3 Ag s3.heap.objs.size (cloFrom X.env.cells scope.names []) code fp hRm
    rw [hce] at pg pe
    have cCo : ce.scope.isCoroutine = false := by rw [← hce]; exact gk.co
    clear hn' hs' kp5 w0 hce
    -- back in the def's context
    have back : ∀ {σ' : L2.St} {H' : Hp} {s' : Shared} {pl : List (Addr × Obj)}, Inv (gX X s3 H3 Ag ce fp) pl σ' H' s' → Inv X pins σ H' s' := fun {σ' H' s' pl} J => I3.call' (ch := fp) J.os J.base J.hok J.bare fun b hb =>
      ⟨(f3 b hb).2.2.2.1, (f3 b hb).2.1, (f3 b hb).2.2.2.2.1, (f3 b hb).2.2.2.2.2⟩
    -- the list of the total
    have nSz : ∀ b ∈ fp, b ≠ h'.objs.size + 1 := fun b hb => Nat.ne_of_lt (Nat.lt_of_lt_of_le (sz3 b hb) (by omega))
    have stat : ∀ {σ' : L2.St} {H' : Hp} {s' : Shared} {oS : Obj}, Inv (gX X s3 H3 Ag ce fp) [(h'.objs.size, go), (h'.objs.size + 1, oS)] σ' H' s' → (∀ b ∈ fp, H' b = none) → ∀ b ∈ fp, FpOk (gX X s3 H3 Ag ce fp) [(h'.objs.size, go), (h'.objs.size + 1, oS)] H' b := fun {σ' H' s' oS} J hn b hb =>
      ⟨hn b hb, (J.ok.exf b hb).1, J.ok.exfs b hb, .inl hb, fun x c e => (J.ok.exf b hb).2 x c e, fun p hp => by
        have hp : p = (h'.objs.size, go) ∨ p = (h'.objs.size + 1, oS) := by simpa using hp
        rcases hp with hp | hp
        · rw [hp]
          exact Nat.ne_of_gt (Nat.lt_trans (sz3 b hb) (by rw [hsz]; exact Nat.lt_succ_self _))
        · rw [hp]
          exact Ne.symm (nSz b hb)⟩
    have gen : ∀ {σ' : L2.St} {H' : Hp} {s' : Shared} {pl : List (Addr × Obj)}, Inv (gX X s3 H3 Ag ce fp) ([(h'.objs.size, go)] ++ pl) σ' H' s' → s'.heap.IsGen h'.objs.size s3.gens.size := fun {σ' H' s' pl} J => by
      have q := (J.pin (h'.objs.size, go) (by simp)).1
      exact ⟨go, _, _, q, by rw [← hgo], by rw [← hgo], by rw [← hgo]⟩
    have fS : ∀ {H' : Hp}, H' (h'.objs.size + 1) = none → FpOk (gX X s3 H3 Ag ce fp) [(h'.objs.size, go)] H' (h'.objs.size + 1) := fun {H'} hn => I5.fpOk (by show (h'.push go).objs.size ≤ _; rw [Heap.size_push]; exact Nat.le_refl _) hn
    -- the turns
    have loop : ∀ (m n i : Nat) (z : Int) (s₀ s : Shared) (H : Hp) (oS : Obj), m < n → W i m z H → Inv (gX X s3 H3 Ag ce fp) [(h'.objs.size, go), (h'.objs.size + 1, oS)] (wipe σ (own.map (·.2))) H s → HoldsZ (h'.objs.size + 1) s z → s.heap.get? (h'.objs.size + 1) = s₀.heap.get? (h'.objs.size + 1) → tn i s.heap → (∀ b ∈ fp, H b = none) → s3.gens.size + 1 ≤ s.gens.size →
        Seg (model X.prog X.w) X.A.in1.in1 (fun n s₀ r s₁ => r = .ok .next ∧ gRs (h'.objs.size + 1) (fun z s => ∃ H', Inv X pins σ H' s ∧ Q (.int z) H') n s₀ s₁) (gYs s3.gens.size h'.objs.size (h'.objs.size + 1)) n s₀
          (.compLoop (.GeneratorExp elt [⟨tg, iter, [], 0⟩] scope gpos) 0 (.ref it) .none ce) ((model X.prog X.w).den (.compLoop (.GeneratorExp elt [⟨tg, iter, [], 0⟩] scope gpos) 0 (.ref it) .none ce)) [] s := by
      intro m
      induction m using Nat.strongRecOn with
      | ind m ih =>
        intro n i z s₀ s H oS hmn w J hz0 hs0 st nf hz
        show Seg (model X.prog X.w) _ _ _ n s₀ _ ((compTurn (.GeneratorExp elt [⟨tg, iter, [], 0⟩] scope gpos) 0 (.ref it) .none ce).onRaise (leaving ce)) [] s
        rw [compTurn_gen]
        rw [Sem.onRaise_eq_wrap]
        refine seg_bind_wrap (wpAny_standAt (seg_bind_wrap ?_))
        rw [hAg]
        have same0 : ∀ z', HoldsZ (h'.objs.size + 1) s₀ z' → z' = z := fun z' ⟨t', c', e'⟩ => HoldsZ.inj ⟨t', c', hs0.trans e'⟩ hz0
        have oSs : s.heap.get? (h'.objs.size + 1) = some oS := (J.pin (h'.objs.size + 1, oS) (by simp)).1
        rcases turn i m z H w with ⟨stp, qq⟩ | ⟨go', Nx, hNx, step⟩
        · refine thnF (T.done (gX X s3 H3 Ag ce fp) rfl rfl rfl hc i _ s _ H (fun _ _ => False) J (stat J nf) st stp) fun r s6 ⟨hr6, J6⟩ => ?_
          subst hr6
          exact seg_end (.ok .next) ⟨rfl, J6.bare, fun z' hz' => by rw [same0 z' hz']; exact ⟨H, back J6, qq⟩⟩
        · refine GenW.wpAny_gsz hz (thnF (T.item (gX X s3 H3 Ag ce fp) rfl rfl rfl hc i _ s _ H (fun _ _ => False) J (stat J nf) st go') fun r s6 ⟨u, hr6, h6⟩ hz6 => ?_)
          subst hr6
          refine seg_bind_wrap ?_
          rw [hAg]
          refine GenW.wpAny_gsz hz6 (thnF h6 fun _ s7 ⟨x, H7, J7, r7, y7, st7, n7⟩ hz7 => ?_)
          have J7' := J7.pinned (stat J7 n7) (T.obj _ _ st7)
          refine seg_bind_wrap ?_
          rw [hAg]
          refine GenW.wpAny_gsz hz7 (thnF (pg.run _ s7 _ H7 x u _ J7' r7 (step x H7 y7)) fun _ s8 ⟨σ8, H8, J8, hw8, q8⟩ hz8 => ?_)
          simp only [List.forIn_nil]
          refine seg_bind_wrap (wpAny_pure ?_)
          simp only [if_true]
          have hy : ∀ v, yieldOut ce v = yieldValue v := fun v => by simp only [yieldOut, cCo, Bool.false_eq_true, if_false]
          simp only [hy]
          rw [Sem.bind_eq_wrap', Sem.bind_eq_wrap']
          rw [Sem.wrap_wrap, Sem.wrap_wrap]
          refine seg_wrap ?_
          rw [hAg]
          refine GenW.wpAny_gsz hz8 (thnF (pe.run _ s8 σ8 H8 _ J8 q8) fun zv s9 ⟨yv, H9, J9, r9, y, eb, qb⟩ hz9 => ?_)
          subst eb
          obtain ⟨ty, rfl⟩ : ∃ t, zv = Value.int y t := r9
          obtain ⟨n', rfl⟩ : ∃ n', n = n' + 1 := ⟨n - 1, by omega⟩
          have hl : (wipe σ (own.map (·.2))).length = σ8.length := by rw [← hw8, wipe_length]
          have K9 : Inv (gX X s3 H3 Ag ce fp) [(h'.objs.size, go), (h'.objs.size + 1, oS)] (wipe σ (own.map (·.2))) H9 s9 := J9.unpinned.weak hl fun j v e => by
            rw [← hw8] at e
            exact (wipe_some e).1
          have pinS := K9.pin (h'.objs.size + 1, oS) (by simp)
          have pinG := K9.pin (h'.objs.size, go) (by simp)
          have K9' : Inv (gX X s3 H3 Ag ce fp) [(h'.objs.size, go)] (wipe σ (own.map (·.2))) H9 s9 := K9.pins_of fun p hp => by
            rw [List.mem_singleton.mp hp]
            exact pinG
          refine seg_at (seg_yield rfl rfl rfl ⟨y, ty, rfl, by rw [pinS.1, ← oSs]; exact hs0, J9.bare, hz9, fun z' s' hz' r hzs => ?_⟩)
          have L9 := r.inv K9' (fS pinS.2.1)
          refine ⟨L9.nolimit, gen (pl := []) L9, ?_⟩
          rw [same0 z' hz'] at hzs
          have hzs' := hzs
          obtain ⟨tS, cS, eS⟩ := hzs
          have L9' : Inv (gX X s3 H3 Ag ce fp) [(h'.objs.size, go), (h'.objs.size + 1, { cls := .type "list", dict := none, data := .seq #[.int (z + y) tS] cS, slots := #[] })] (wipe σ (own.map (·.2))) H9 s' := L9.pins_of fun p hp => by
            simp only [List.mem_cons, List.not_mem_nil, or_false] at hp
            rcases hp with hp | hp
            · rw [hp]
              exact L9.pin (h'.objs.size, go) (by simp)
            · rw [hp]
              exact ⟨eS, pinS.2.1, pinS.2.2.1, pinS.2.2.2.1, fun v e => by cases e⟩
          obtain ⟨m', hm', w'⟩ := hNx y H9 qb
          have pin' : ∀ b ∈ fp, ∀ o, s7.heap.get? b = some o → s9.heap.get? b = some o ∧ H9 b = none := fun b hb o e =>
            let z := J9.pin (b, o) (List.mem_append_right _ (List.mem_append_right _ (mem_pinsAt hb e)))
            ⟨z.1, z.2.1⟩
          refine seg_again rfl (ih m' hm' n' (i + 1) (z + y) s' s' H9 _ (by omega) w' L9' hzs' rfl ?_ (fun b hb => ?_) (Nat.le_trans hz9 r.size))
          · exact T.keep _ _ _ st7 fun b hb o e => r.keep b o (nSz b hb) (pin' b hb o e).1
          · obtain ⟨o, e, _⟩ := T.obj _ _ st7 b hb
            exact (pin' b hb o e).2
    have mono : ∀ (z : Int) (s s' : Shared), (∃ H', Inv X pins σ H' s ∧ Q (.int z) H') → s'.os = s.os → AllBare s'.gens → (∀ b o, s.heap.get? b = some o → s'.heap.get? b = some o) → ∃ H', Inv X pins σ H' s' ∧ Q (.int z) H' := fun z s s' ⟨H', J, q⟩ h1 h2 h3 =>
      ⟨H', inv_gens (J.kept (t' := s'.toks) h3) rfl h1 h2, q⟩
    generalize hs5 : ({ s3 with heap := h'.push go, gens := s3.gens.push (.fresh (.compStart (.GeneratorExp elt [⟨tg, iter, [], 0⟩] scope gpos) 0 (.ref it) .none ce)), toks := s3.toks + 1 + 1 + 1 } : Shared) = s5 at I5
    have hg5 : s5.gens[s3.gens.size]? = some (.fresh (.compStart (.GeneratorExp elt [⟨tg, iter, [], 0⟩] scope gpos) 0 (.ref it) .none ce)) := by
      rw [← hs5]
      exact Array.getElem?_push_size ..
    have hz5 : s3.gens.size + 1 ≤ s5.gens.size := by
      rw [← hs5]
      exact Nat.le_of_eq (Array.size_push ..).symm
    have ht5 : tn 0 s5.heap := by rw [← hs5]; exact st5
    have eS5 : s5.heap.objs.size = h'.objs.size + 1 := by rw [← hs5]; exact Heap.size_push ..
    have wt : ∀ (s6 : Shared) (z0 : Int), (∀ b o, s5.heap.get? b = some o → s6.heap.get? b = some o) → s6.os = s5.os → s6.gens = s5.gens → HoldsZ (h'.objs.size + 1) s6 z0 → z0 = 0 → WaitsS X.prog X.w X.A.in1 s3.gens.size h'.objs.size (h'.objs.size + 1) (fun z s => ∃ H', Inv X pins σ H' s ∧ Q (.int z) H') (m0 + 1) s6 := by
      intro s6 z0 k6 o6 g6 hz6 ez
      subst ez
      have I6 : Inv (gX X s3 H3 Ag ce fp) [(h'.objs.size, go)] (wipe σ (own.map (·.2))) H3 s6 := inv_gens (I5.kept (h' := s6.heap) (t' := s6.toks) k6) rfl o6 (by rw [g6]; exact I5.bare)
      have hz6' := hz6
      obtain ⟨tS, cS, eS⟩ := hz6
      have nS : H3 (h'.objs.size + 1) = none := I5.hok.fresh (by rw [eS5]; exact Nat.le_refl _)
      have f6 := fS nS
      have I6' : Inv (gX X s3 H3 Ag ce fp) [(h'.objs.size, go), (h'.objs.size + 1, { cls := .type "list", dict := none, data := .seq #[.int 0 tS] cS, slots := #[] })] (wipe σ (own.map (·.2))) H3 s6 := I6.pins_of fun p hp => by
        simp only [List.mem_cons, List.not_mem_nil, or_false] at hp
        rcases hp with hp | hp
        · rw [hp]
          exact I6.pin (h'.objs.size, go) (by simp)
        · rw [hp]
          exact ⟨eS, nS, f6.2.1, f6.2.2.1, fun v e => by cases e⟩
      have hg6 := hg5
      rw [← g6] at hg6
      refine ⟨gen (pl := []) I6, I6.nolimit, I6.bare, _, hg6, fun s' r => ⟨rfl, ?_⟩⟩
      have lp := loop m0 (m0 + 1) 0 0 s' s' H3 _ (Nat.lt_succ_self _) hw0 (r.inv I6') (hz6'.of r.heap) rfl (by rw [r.heap]; exact T.keep _ _ _ ht5 fun b _ o e => k6 b o e) nfp (Nat.le_trans (by rw [g6]; exact hz5) r.size)
      show Seg (model X.prog X.w) _ _ _ _ s' _ ((compStart (.GeneratorExp elt [⟨tg, iter, [], 0⟩] scope gpos) 0 (.ref it) .none ce).onRaise (leaving ce)) [] s'
      unfold compStart
      rw [Sem.onRaise_eq_wrap]
      show Seg (model X.prog X.w) _ _ _ _ s' _ ((ask >>= _).wrap _ _ _ _) [] s'
      refine seg_bind_wrap (wpAny_askSetting ?_)
      have ts : tn 0 s'.heap := by rw [r.heap]; exact T.keep _ _ _ ht5 fun b _ o e => k6 b o e
      split
      · exact seg_again rfl lp
      · first
          | exact seg_bind_wrap (wpAny_rule (seg_bind_wrap (wpAny_standAt (seg_bind_wrap (T.self _ 0 s' _ _ ts (seg_again rfl lp))))))
          | (refine seg_bind_wrap (wpAny_rule ?_); show Seg (model X.prog X.w) _ _ _ _ s' _ ((standAt iter.pos >>= _).wrap _ _ _ _) [] s'; exact seg_bind_wrap (wpAny_standAt (seg_bind_wrap (T.self _ 0 s' _ _ ts (seg_again rfl lp)))))
    refine call_function_tree PySem.F.kind_sum PySem.F.plain_sum PySem.F.entry_sum (PySem.F.args_sum1 _) ?_
    unfold Builtin.«sum»
    simp only [List.length_cons, List.length_nil]
    rw [if_neg (by decide)]
    refine wpAny_bind (wpAny_of_eq (show Builtin.Builtins.bindParams "sum" ["start"] 0 { } = pure [none] from rfl) ?_)
    refine wpAny_bind (wpAny_pyIter_gen (gen (pl := []) I5) ?_)
    refine wpAny_bind (wpAny_mkInt ?_)
    refine wpAny_bind (wpAny_pure ?_)
    simp only [List.forIn_cons, List.forIn_nil]
    refine wpAny_bind (wpAny_bind (wpAny_bind (wpAny_isInstance (T := "int") (b := false) (typeIs_int _ _ _) PySem.sub_int_str ?_)))
    simp only [Bool.false_eq_true, if_false]
    refine wpAny_pure (wpAny_bind (wpAny_bind (wpAny_isInstance (T := "int") (b := false) (typeIs_int _ _ _) PySem.sub_int_bytes ?_)))
    simp only [Bool.false_eq_true, if_false]
    refine wpAny_pure (wpAny_bind (wpAny_bind (wpAny_isInstance (T := "int") (b := false) (typeIs_int _ _ _) PySem.sub_int_bytearray ?_)))
    simp only [Bool.false_eq_true, if_false]
    refine wpAny_pure (wpAny_pure ?_)
    refine wpAny_bind (wpAny_newObj_type ?_)
    rw [eS5]
    have hH : HoldsZ (h'.objs.size + 1) { s5 with heap := s5.heap.push { cls := .type "list", dict := none, data := .seq #[.int 0 s5.toks], slots := #[] }, toks := s5.toks + 1 } 0 := ⟨_, _, by rw [← eS5]; exact Heap.get?_push_size _ rfl⟩
    refine wpAny_pure ⟨plainId_quiet PySem.F.plain_sum_loop _, codeAny_mono (sum_loopS hh hr.depth mono (m0 + 1) _ 0 0 (.inl rfl) hH (wt _ 0 (fun b o e => Heap.get?_push_of_some _ e) rfl rfl hH rfl)) fun r s' hq => ?_⟩
    obtain ⟨z, t, rfl, H', J, q⟩ := hq
    exact ⟨.int z, H', J, ⟨t, rfl⟩, q⟩
  cases hf : codeAmong gpos ps.toList with
  | none =>
    refine wpAny_genexprCodeX hcode (cd.code hPs ht) (cd.tab hPs) hf fun c' h' tk hx hge hlt hco' _ htab' _ => ?_
    obtain ⟨o1, vs, f1, tf, fl, tg1, inF, tx, tt, op, _, _, _, _, _, _, _, _, _, htr, _⟩ := hco'
    exact cont _ h' tk _ (Nat.le_trans hge (Nat.le_of_lt hlt)) (fun b o hb e => hx b o hb e) htab'.2 htr
  | some cv =>
    refine wpAny_genexprCode_hit hcode (cd.code hPs ht) hf ?_
    have := cont cv s2.heap s2.toks #[] (Nat.le_refl _) (fun _ _ _ e => e) (by rw [hPs]; simp) (by simpa using ht)
    exact this
end
def topS (i : Nat) : Stmt := PySem.Challenge.pw_friendfoe_k88_whole_mends_put_together.main.body.getD i (.Pass ⟨0, 0, 0, 0⟩)
abbrev s_neighbours : Stmt := topS 4
abbrev N_neighbours : List Str := ["web", "many", "ties", "around", "place", "one", "other", "kind"]
theorem sc_neighbours : FnScope N_neighbours ["web"] (defScope s_neighbours) := ⟨rfl, rfl, rfl, by decide +kernel, rfl, by decide +kernel, by decide +kernel⟩
abbrev s_sides_from : Stmt := topS 5
abbrev N_sides_from : List Str := ["start", "around", "sides", "waiting", "place", "other", "kind"]
theorem sc_sides_from : FnScope N_sides_from ["start", "around"] (defScope s_sides_from) := ⟨rfl, rfl, rfl, by decide +kernel, rfl, by decide +kernel, by decide +kernel⟩
abbrev s_parts_of : Stmt := topS 6
abbrev N_parts_of : List Str := ["web", "around", "parts", "placed", "start", "part"]
theorem sc_parts_of : FnScope N_parts_of ["web"] (defScope s_parts_of) := ⟨rfl, rfl, rfl, by decide +kernel, rfl, by decide +kernel, by decide +kernel⟩
abbrev s_ties_within : Stmt := topS 7
abbrev N_ties_within : List Str := ["web", "part", "number", "tie"]
theorem sc_ties_within : FnScope N_ties_within ["web", "part"] (defScope s_ties_within) := ⟨rfl, rfl, rfl, by decide +kernel, rfl, by decide +kernel, by decide +kernel⟩
abbrev s_is_whole : Stmt := topS 9
abbrev N_is_whole : List Str := ["thing"]
theorem sc_is_whole : FnScope N_is_whole ["thing"] (defScope s_is_whole) := ⟨rfl, rfl, rfl, by decide +kernel, rfl, by decide +kernel, by decide +kernel⟩
abbrev s_is_whole_from : Stmt := topS 10
abbrev N_is_whole_from : List Str := ["low", "thing"]
theorem sc_is_whole_from : FnScope N_is_whole_from ["low", "thing"] (defScope s_is_whole_from) := ⟨rfl, rfl, rfl, by decide +kernel, rfl, by decide +kernel, by decide +kernel⟩
abbrev s_is_whole_below : Stmt := topS 11
abbrev N_is_whole_below : List Str := ["limit", "thing"]
theorem sc_is_whole_below : FnScope N_is_whole_below ["limit", "thing"] (defScope s_is_whole_below) := ⟨rfl, rfl, rfl, by decide +kernel, rfl, by decide +kernel, by decide +kernel⟩
abbrev s_are_unlike_places : Stmt := topS 12
abbrev N_are_unlike_places : List Str := ["many", "one", "other"]
theorem sc_are_unlike_places : FnScope N_are_unlike_places ["many", "one", "other"] (defScope s_are_unlike_places) := ⟨rfl, rfl, rfl, by decide +kernel, rfl, by decide +kernel, by decide +kernel⟩
abbrev s_is_tuple_of : Stmt := topS 13
abbrev N_is_tuple_of : List Str := ["length", "thing"]
theorem sc_is_tuple_of : FnScope N_is_tuple_of ["length", "thing"] (defScope s_is_tuple_of) := ⟨rfl, rfl, rfl, by decide +kernel, rfl, by decide +kernel, by decide +kernel⟩
abbrev s_are_rising_below : Stmt := topS 14
abbrev N_are_rising_below : List Str := ["limit", "thing", "number", "following"]
theorem sc_are_rising_below : FnScope N_are_rising_below ["limit", "thing"] (defScope s_are_rising_below) := ⟨rfl, rfl, rfl, by decide +kernel, rfl, by decide +kernel, by decide +kernel⟩
abbrev s_breaks : Stmt := topS 16
abbrev N_breaks : List Str := ["sides", "tie", "one", "other", "kind"]
theorem sc_breaks : FnScope N_breaks ["sides", "tie"] (defScope s_breaks) := ⟨rfl, rfl, rfl, by decide +kernel, rfl, by decide +kernel, by decide +kernel⟩
abbrev s_broken_by : Stmt := topS 17
abbrev N_broken_by : List Str := ["web", "sides", "number", "tie"]
theorem sc_broken_by : FnScope N_broken_by ["web", "sides"] (defScope s_broken_by) := ⟨rfl, rfl, rfl, by decide +kernel, rfl, by decide +kernel, by decide +kernel⟩
abbrev s_sides_of : Stmt := topS 18
abbrev N_sides_of : List Str := ["web", "around", "told", "start", "sides", "place"]
theorem sc_sides_of : FnScope N_sides_of ["web"] (defScope s_sides_of) := ⟨rfl, rfl, rfl, by decide +kernel, rfl, by decide +kernel, by decide +kernel⟩
abbrev s_weight_of : Stmt := topS 20
abbrev N_weight_of : List Str := ["weights", "tie"]
theorem sc_weight_of : FnScope N_weight_of ["weights", "tie"] (defScope s_weight_of) := ⟨rfl, rfl, rfl, by decide +kernel, rfl, by decide +kernel, by decide +kernel⟩
abbrev s_without : Stmt := topS 23
abbrev N_without : List Str := ["web", "numbers", "gone", "number", "tie"]
theorem sc_without : FnScope N_without ["web", "numbers"] (defScope s_without) := ⟨rfl, rfl, rfl, by decide +kernel, rfl, by decide +kernel, by decide +kernel⟩
abbrev s_mend_holds : Stmt := topS 24
abbrev N_mend_holds : List Str := ["web", "thing"]
theorem sc_mend_holds : FnScope N_mend_holds ["web", "thing"] (defScope s_mend_holds) := ⟨rfl, rfl, rfl, by decide +kernel, rfl, by decide +kernel, by decide +kernel⟩
abbrev s_mend_weight : Stmt := topS 25
abbrev N_mend_weight : List Str := ["weights", "ties", "tie"]
theorem sc_mend_weight : FnScope N_mend_weight ["weights", "ties"] (defScope s_mend_weight) := ⟨rfl, rfl, rfl, by decide +kernel, rfl, by decide +kernel, by decide +kernel⟩
abbrev s_odd_parts : Stmt := topS 26
abbrev N_odd_parts : List Str := ["web", "around", "rows", "part", "ties", "sides", "tie"]
theorem sc_odd_parts : FnScope N_odd_parts ["web"] (defScope s_odd_parts) := ⟨rfl, rfl, rfl, by decide +kernel, rfl, by decide +kernel, by decide +kernel⟩
abbrev s_small_odd_parts : Stmt := topS 27
abbrev N_small_odd_parts : List Str := ["web", "rows", "part", "ties"]
theorem sc_small_odd_parts : FnScope N_small_odd_parts ["web"] (defScope s_small_odd_parts) := ⟨rfl, rfl, rfl, by decide +kernel, rfl, by decide +kernel, by decide +kernel⟩
abbrev s_all_sides : Stmt := topS 28
abbrev N_all_sides : List Str := ["part", "choices", "place", "sides", "side"]
theorem sc_all_sides : FnScope N_all_sides ["part"] (defScope s_all_sides) := ⟨rfl, rfl, rfl, by decide +kernel, rfl, by decide +kernel, by decide +kernel⟩
abbrev s_least_of_part : Stmt := topS 29
abbrev N_least_of_part : List Str := ["web", "weights", "part", "ties", "rows", "sides", "broken", "tie"]
theorem sc_least_of_part : FnScope N_least_of_part ["web", "weights", "part", "ties"] (defScope s_least_of_part) := ⟨rfl, rfl, rfl, by decide +kernel, rfl, by decide +kernel, by decide +kernel⟩
abbrev s_least_mend : Stmt := topS 30
abbrev N_least_mend : List Str := ["web", "weights", "told", "part", "ties"]
theorem sc_least_mend : FnScope N_least_mend ["web", "weights"] (defScope s_least_mend) := ⟨rfl, rfl, rfl, by decide +kernel, rfl, by decide +kernel, by decide +kernel⟩
abbrev s_are_unlike_below : Stmt := topS 32
abbrev N_are_unlike_below : List Str := ["limit", "thing", "number"]
theorem sc_are_unlike_below : FnScope N_are_unlike_below ["limit", "thing"] (defScope s_are_unlike_below) := ⟨rfl, rfl, rfl, by decide +kernel, rfl, by decide +kernel, by decide +kernel⟩
abbrev s_joins : Stmt := topS 33
abbrev N_joins : List Str := ["tie", "one", "other"]
theorem sc_joins : FnScope N_joins ["tie", "one", "other"] (defScope s_joins) := ⟨rfl, rfl, rfl, by decide +kernel, rfl, by decide +kernel, by decide +kernel⟩
abbrev s_ring_holds : Stmt := topS 34
abbrev N_ring_holds : List Str := ["web", "thing", "places", "ties", "followers", "tie", "one", "other"]
theorem sc_ring_holds : FnScope N_ring_holds ["web", "thing"] (defScope s_ring_holds) := ⟨rfl, rfl, rfl, by decide +kernel, rfl, by decide +kernel, by decide +kernel⟩
abbrev s_foes_in : Stmt := topS 35
abbrev N_foes_in : List Str := ["web", "ring", "tie"]
theorem sc_foes_in : FnScope N_foes_in ["web", "ring"] (defScope s_foes_in) := ⟨rfl, rfl, rfl, by decide +kernel, rfl, by decide +kernel, by decide +kernel⟩
abbrev s_odd_ring_holds : Stmt := topS 36
abbrev N_odd_ring_holds : List Str := ["web", "thing"]
theorem sc_odd_ring_holds : FnScope N_odd_ring_holds ["web", "thing"] (defScope s_odd_ring_holds) := ⟨rfl, rfl, rfl, by decide +kernel, rfl, by decide +kernel, by decide +kernel⟩
abbrev s_is_ring_row : Stmt := topS 38
abbrev N_is_ring_row : List Str := ["web", "limits", "given", "thing", "ring", "times", "tie"]
theorem sc_is_ring_row : FnScope N_is_ring_row ["web", "limits", "given", "thing"] (defScope s_is_ring_row) := ⟨rfl, rfl, rfl, by decide +kernel, rfl, by decide +kernel, by decide +kernel⟩
abbrev s_rings_show : Stmt := topS 39
abbrev N_rings_show : List Str := ["web", "limits", "given", "rows", "total", "used", "row", "ring", "times", "tie"]
theorem sc_rings_show : FnScope N_rings_show ["web", "limits", "given", "rows"] (defScope s_rings_show) := ⟨rfl, rfl, rfl, by decide +kernel, rfl, by decide +kernel, by decide +kernel⟩
abbrev s_is_split_row : Stmt := topS 40
abbrev N_is_split_row : List Str := ["limits", "given", "taken", "thing", "tie"]
theorem sc_is_split_row : FnScope N_is_split_row ["limits", "given", "taken", "thing"] (defScope s_is_split_row) := ⟨rfl, rfl, rfl, by decide +kernel, rfl, by decide +kernel, by decide +kernel⟩
abbrev s_split_shows : Stmt := topS 41
abbrev N_split_shows : List Str := ["web", "limits", "given", "rows", "total", "taken", "row", "own", "tie", "shown"]
theorem sc_split_shows : FnScope N_split_shows ["web", "limits", "given", "rows"] (defScope s_split_shows) := ⟨rfl, rfl, rfl, by decide +kernel, rfl, by decide +kernel, by decide +kernel⟩
abbrev s_case_shows : Stmt := topS 42
abbrev N_case_shows : List Str := ["web", "limits", "given", "thing", "word", "one", "other", "together", "apart", "shown", "kind", "paper", "surer"]
theorem sc_case_shows : FnScope N_case_shows ["web", "limits", "given", "thing"] (defScope s_case_shows) := ⟨rfl, rfl, rfl, by decide +kernel, rfl, by decide +kernel, by decide +kernel⟩
abbrev s_knot_shows : Stmt := topS 43
abbrev N_knot_shows : List Str := ["web", "limits", "given", "thing", "word", "rows"]
theorem sc_knot_shows : FnScope N_knot_shows ["web", "limits", "given", "thing"] (defScope s_knot_shows) := ⟨rfl, rfl, rfl, by decide +kernel, rfl, by decide +kernel, by decide +kernel⟩
abbrev s_shown_by : Stmt := topS 44
abbrev N_shown_by : List Str := ["web", "weights", "thing", "limits", "tie", "given"]
theorem sc_shown_by : FnScope N_shown_by ["web", "weights", "thing"] (defScope s_shown_by) := ⟨rfl, rfl, rfl, by decide +kernel, rfl, by decide +kernel, by decide +kernel⟩
abbrev s_ring_row : Stmt := topS 46
abbrev N_ring_row : List Str := ["web", "weights", "part", "tie", "one", "other", "kind", "first", "places", "sure", "place"]
theorem sc_ring_row : FnScope N_ring_row ["web", "weights", "part", "tie"] (defScope s_ring_row) := ⟨rfl, rfl, rfl, by decide +kernel, rfl, by decide +kernel, by decide +kernel⟩
abbrev s_known_broken : Stmt := topS 47
abbrev N_known_broken : List Str := ["web", "ties", "sides", "known", "tie"]
theorem sc_known_broken : FnScope N_known_broken ["web", "ties", "sides"] (defScope s_known_broken) := ⟨rfl, rfl, rfl, by decide +kernel, rfl, by decide +kernel, by decide +kernel⟩
abbrev s_part_paper : Stmt := topS 48
abbrev N_part_paper : List Str := ["web", "weights", "row", "least", "sides", "part", "ties", "broken", "tie", "place", "together", "apart"]
theorem sc_part_paper : FnScope N_part_paper ["web", "weights", "row", "least", "sides"] (defScope s_part_paper) := ⟨rfl, rfl, rfl, by decide +kernel, rfl, by decide +kernel, by decide +kernel⟩
abbrev s_paper_of : Stmt := topS 49
abbrev N_paper_of : List Str := ["web", "weights", "rows", "part", "ties", "least"]
theorem sc_paper_of : FnScope N_paper_of ["web", "weights"] (defScope s_paper_of) := ⟨rfl, rfl, rfl, by decide +kernel, rfl, by decide +kernel, by decide +kernel⟩
abbrev s_l_deck : Stmt := topS 51
abbrev N_l_deck : List Str := ["_law_script", "_law_cells", "_law_seed", "_law_cell"]
theorem sc_l_deck : FnScope N_l_deck ["_law_script"] (defScope s_l_deck) := ⟨rfl, rfl, rfl, by decide +kernel, rfl, by decide +kernel, by decide +kernel⟩
abbrev s_l_take : Stmt := topS 52
abbrev N_l_take : List Str := ["_law_deck_here", "_law_many", "_law_at", "_law_cell", "_law_seed", "_law_number"]
theorem sc_l_take : FnScope N_l_take ["_law_deck_here", "_law_many"] (defScope s_l_take) := ⟨rfl, rfl, rfl, by decide +kernel, rfl, by decide +kernel, by decide +kernel⟩
abbrev s_l_long : Stmt := topS 53
abbrev N_l_long : List Str := ["_law_deck_here", "_law_found", "_law_k"]
theorem sc_l_long : FnScope N_l_long ["_law_deck_here"] (defScope s_l_long) := ⟨rfl, rfl, rfl, by decide +kernel, rfl, by decide +kernel, by decide +kernel⟩
abbrev s_l_ties : Stmt := topS 54
abbrev N_l_ties : List Str := ["_law_deck_here", "_law_many", "_law_most", "_law_ties_here", "_law_one", "_law_other"]
theorem sc_l_ties : FnScope N_l_ties ["_law_deck_here", "_law_many", "_law_most"] (defScope s_l_ties) := ⟨rfl, rfl, rfl, by decide +kernel, rfl, by decide +kernel, by decide +kernel⟩
abbrev s_l_shuffled : Stmt := topS 55
abbrev N_l_shuffled : List Str := ["_law_deck_here", "_law_many", "_law_left", "_law_k"]
theorem sc_l_shuffled : FnScope N_l_shuffled ["_law_deck_here", "_law_many"] (defScope s_l_shuffled) := ⟨rfl, rfl, rfl, by decide +kernel, rfl, by decide +kernel, by decide +kernel⟩
abbrev s_l_weighed : Stmt := topS 56
abbrev N_l_weighed : List Str := ["_law_deck_here", "_law_ties_here", "_law_way", "_law_tie"]
theorem sc_l_weighed : FnScope N_l_weighed ["_law_deck_here", "_law_ties_here"] (defScope s_l_weighed) := ⟨rfl, rfl, rfl, by decide +kernel, rfl, by decide +kernel, by decide +kernel⟩
abbrev s_l_least : Stmt := topS 57
abbrev N_l_least : List Str := ["_law_web", "_law_weights", "_law_told"]
theorem sc_l_least : FnScope N_l_least ["_law_web", "_law_weights"] (defScope s_l_least) := ⟨rfl, rfl, rfl, by decide +kernel, rfl, by decide +kernel, by decide +kernel⟩
abbrev s_l_both : Stmt := topS 58
abbrev N_l_both : List Str := ["_law_deck_here", "_law_one", "_law_other", "_law_mine", "_law_theirs", "_law_many", "_law_called", "_law_ties_here", "_law_a", "_law_b", "_law_kind", "_law_row", "_law_web", "_law_k"]
theorem sc_l_both : FnScope N_l_both ["_law_deck_here", "_law_one", "_law_other", "_law_mine", "_law_theirs"] (defScope s_l_both) := ⟨rfl, rfl, rfl, by decide +kernel, rfl, by decide +kernel, by decide +kernel⟩
abbrev s_l_both_right : Stmt := topS 59
abbrev N_l_both_right : List Str := ["_law_deck_here", "_law_one", "_law_other", "_law_mine", "_law_theirs", "_law_least_here", "_law_web", "_law_weights", "_law_row", "_law_told", "_law_k", "_law_first", "_law_second"]
theorem sc_l_both_right : FnScope N_l_both_right ["_law_deck_here", "_law_one", "_law_other", "_law_mine", "_law_theirs", "_law_least_here"] (defScope s_l_both_right) := ⟨rfl, rfl, rfl, by decide +kernel, rfl, by decide +kernel, by decide +kernel⟩
abbrev s_l_more : Stmt := topS 60
abbrev N_l_more : List Str := ["_law_deck_here", "_law_web", "_law_weights", "_law_many", "_law_ties_here", "_law_times", "_law_about", "_law_one", "_law_other", "_law_kind", "_law_found", "_law_place", "_law_leaf", "_law_there", "_law_heavy", "_law_pair", "_law_at", "_law_less", "_law_lighter"]
theorem sc_l_more : FnScope N_l_more ["_law_deck_here", "_law_web", "_law_weights"] (defScope s_l_more) := ⟨rfl, rfl, rfl, by decide +kernel, rfl, by decide +kernel, by decide +kernel⟩
abbrev s_law : Stmt := topS 61
abbrev N_law : List Str := ["_law_script", "_law_deck_here", "_law_turn", "_law_webs", "_law_k", "_law_many", "_law_ties_here", "_law_one", "_law_mine", "_law_other", "_law_theirs", "_law_least_here", "_law_web", "_law_weights", "_law_times", "_law_more_here", "_law_heavier", "_law_weight"]
theorem sc_law : FnScope N_law ["_law_script"] (defScope s_law) := ⟨rfl, rfl, rfl, by decide +kernel, rfl, by decide +kernel, by decide +kernel⟩
/-! ### own rules: a list against [] -/
section
variable {X : Cx}
def rEqE (K : PySem.W.Frag) : R2 := fun x y H Q => ∃ (a b : Addr) (xs : List V), x = .ref a ∧ y = .ref b ∧ SqL K H a xs ∧ SqL K H b [] ∧ Q (.bl xs.isEmpty) H
def rNeE (K : PySem.W.Frag) : R2 := fun x y H Q => ∃ (a b : Addr) (xs : List V), x = .ref a ∧ y = .ref b ∧ SqL K H a xs ∧ SqL K H b [] ∧ Q (.bl (!xs.isEmpty)) H
theorem op_eqE (hu : X.A.units < cLine) : OpR X (compareOp .Eq) (rEqE X.K) := by
  intro pins s σ H x y v u Q I rx ry h
  obtain ⟨a, b, xs, rfl, rfl, ha, hb, q⟩ := h
  obtain rfl : v = Value.ref a := rx
  obtain rfl : u = Value.ref b := ry
  obtain ⟨its, r1, p1, _⟩ := I.list ha
  obtain ⟨its2, r2, p2, _⟩ := I.list hb
  cases r2
  cases xs with
  | nil =>
    cases r1
    exact SeqAt.eq_listAt (e := fun _ => true) p1.isList p2.isList rfl hu (fun j h1 _ => absurd h1 (by simp)) ⟨.bl true, H, I, rfl, q⟩
  | cons z zs =>
    cases r1 with
    | cons r t => exact SeqAt.eq_list_lengthsAt p1.isList p2.isList (by simp) hu ⟨.bl false, H, I, rfl, q⟩
theorem op_neE (hu : X.A.units < cLine) : OpR X (compareOp .NotEq) (rNeE X.K) := by
  intro pins s σ H x y v u Q I rx ry h
  obtain ⟨a, b, xs, rfl, rfl, ha, hb, q⟩ := h
  obtain rfl : v = Value.ref a := rx
  obtain rfl : u = Value.ref b := ry
  obtain ⟨its, r1, p1, _⟩ := I.list ha
  obtain ⟨its2, r2, p2, _⟩ := I.list hb
  cases r2
  cases xs with
  | nil =>
    cases r1
    exact SeqAt.RcNeAt.lists (e := fun _ => true) p1.isList p2.isList rfl hu (fun j h1 _ => absurd h1 (by simp)) _ _ _ _ ⟨.bl false, H, I, rfl, q⟩
  | cons z zs =>
    cases r1 with
    | cons r t => exact SeqAt.RcNeAt.lists_lengths p1.isList p2.isList (by simp) hu _ _ _ _ ⟨.bl true, H, I, rfl, q⟩
end
section
variable {P : Program} {w : World} {K : PySem.W.Frag} {mg : Str → Option Value} {base : Heap}
/-! ### the deck is laid -/
theorem cutV_ints (ns : List Int) (lo hi : Option Int) : ∃ ms : List Int, cutV (ns.map V.int) lo hi = ms.map V.int ∧ ms.length ≤ ns.length := by
  refine ⟨(ns.drop (HT.sIx ns.length 0 lo)).take (HT.sIx ns.length ns.length hi - HT.sIx ns.length 0 lo), ?_, ?_⟩
  · unfold cutV
    rw [List.length_map, List.map_take, List.map_drop]
  · rw [List.length_take, List.length_drop]
    omega
theorem ixN_nat {n k : Nat} (h : k < n) : ixN n (k : Int) = some k := by
  unfold ixN
  rw [if_pos (by omega), if_pos (by omega)]
  rfl
theorem set_map (cells : List Int) (k : Nat) (y : Int) : (cells.map V.int).set k (.int y) = (cells.set k y).map V.int := (List.map_set ..).symm
theorem ok_l_take {f : Addr} {fd : FuncData} (F : Fun K "_law_take" "_law_take" s_l_take f fd) (M : Free mg) : FnOk P w K mg base CX0 1 f fd ["_law_deck_here", "_law_many"] spDraw := by
  refine F.ok sc_l_take (fun vs H Q E h => ?_) (fun cdv A outer s H vs Q E hr h => ?_)
  · obtain ⟨d, c, m, rfl, _⟩ := h
    rfl
  · obtain ⟨d, c, m, rfl, hD, hm, hb, q⟩ := h
    have ndc := hD.ne
    obtain ⟨cells, st, n, hd, hc, hl, n0, n1, st0, st1⟩ := hD
    obtain ⟨k, rfl⟩ : ∃ k : Nat, n = k := ⟨n.toNat, by omega⟩
    have hu := hu_of hr
    refine ⟨_, (pss_cons (ps_set (i := 2) sc_l_take.nd rfl (.inl rfl) (pe_dget hu (pv 0) pe_str (fun _ _ => rfl)))
      (Evl.pss_cut (ps_if (pt_cmpR op_lt (pv 2) (pe_callB call_len_seq (by rfl) M.len PySem.boot_len (pa_cons (pe_dget hu (pv 0) pe_str (fun _ _ => rfl)) pa_nil)) (nomark _))
        (pss_cons (ps_set (i := 3) sc_l_take.nd rfl (.inl rfl) (pe_ix ix_list (pe_dget hu (pv 0) pe_str (fun _ _ => rfl)) (pv 2) (fun _ _ => rfl)))
        (Evl.pss_cut (ps_if (pt_cmpR op_ge (pv 3) (pe_op op_pow pe_int pe_int) (nomark _))
          (pss_cons (ps_asg (pe_op op_fdivW (pv 3) (pv 1)) (pg_sub (pe_dget hu (pv 0) pe_str (fun _ _ => rfl)) (pv 2) set_list))
          (pss_one (ps_ret (pe_op op_mod (pv 3) (pv 1)))))
          pss_nil)
        (pss_one (ps_dput hu (pv 0) pe_str (pe_op op_add (pv 2) pe_int) rfl))))
        pss_nil)
      (Evl.pss_cut (ps_set (i := 4) sc_l_take.nd rfl (.inl rfl) (pe_op op_mod (pe_op op_add (pe_op op_add (pe_op op_mul (pe_dget hu (pv 0) pe_str (fun _ _ => rfl)) pe_int) (pv 2)) pe_int) pe_int))
      (pss_cons (ps_dput hu (pv 0) pe_str (pv 4) rfl)
      (Evl.pss_cut (ps_set (i := 5) sc_l_take.nd rfl (.inl rfl) (pe_op op_mod (pe_op op_add (pe_op op_mul (pv 4) (pe_op op_add (pe_op op_fdiv (pv 4) pe_int) pe_int)) pe_int) pe_int))
      (pss_one (ps_ret (pe_op op_mod (pe_op op_fdiv (pe_op op_mod (pe_op op_mul (pv 5) (pe_op op_add (pe_op op_fdiv (pv 5) pe_int) pe_int)) pe_int) pe_int) (pv 1))))))))), ?_⟩
    have gAt : DGet H d (.str "at") (some (.int k)) := by rw [← dkv_at c k st]; exact DGet.k (k := Sum.inr "at") hd
    have gCe : DGet H d (.str "cells") (some (.ref c)) := by rw [← dkv_cells c k st]; exact DGet.k (k := Sum.inr "cells") hd
    refine ⟨.ref d, rfl, d, _, rfl, gAt, ?_⟩
    refine ⟨fun σ' H' => ∃ (y3 : Option V) (n : Int), σ' = [some (.ref d), some (.int m), some (.int k), y3, none, none] ∧ H' d = some (.dK (dkv c n st)) ∧ H' c = some (.lst (cells.map V.int)) ∧ 0 ≤ n ∧ n ≤ cells.length ∧ Kp d c H H', ?_, ?_⟩
    · refine ⟨.int k, rfl, .ref d, rfl, d, _, rfl, gCe, c, _, rfl, .inl (SqL.of hc), _, _, rfl, rfl, _, rfl, ?_⟩
      rw [List.length_map]
      refine ite2 (fun h1 => ?_) (fun _ => ?_)
      · have hk : k < cells.length := by have := of_decide_eq_true h1; omega
        have ea : atI (cells.map V.int) (k : Int) = some (.int cells[k]) := atI_nat (by rw [List.getElem?_map, List.getElem?_eq_getElem hk]; rfl)
        refine ⟨.ref d, rfl, d, _, rfl, gCe, .int k, rfl, c, _, k, .int cells[k], rfl, rfl, SqL.of hc, ea, ?_⟩
        refine ⟨fun σ' H' => σ' = [some (.ref d), some (.int m), some (.int k), some (.int cells[k]), none, none] ∧ H' = H, ?_, ?_⟩
        · refine ⟨.int cells[k], rfl, 10, 18, rfl, rfl, ⟨by decide, by decide, by decide⟩, _, _, rfl, rfl, _, rfl, ?_⟩
          refine ite2 (fun _ => ?_) (fun _ => ⟨rfl, rfl⟩)
          refine ⟨.int cells[k], rfl, .int m, rfl, cells[k], m, rfl, rfl, wide_div hm hb (by decide) (by decide), .ref d, rfl, d, _, rfl, gCe, .int k, rfl, c, _, k, k, rfl, rfl, hc, by rw [List.length_map]; exact ixN_nat hk, ?_⟩
          refine ⟨.int cells[k], rfl, .int m, rfl, cells[k], m, rfl, rfl, hm, q _ _ (mod_rng hm).1 (mod_rng hm).2 ⟨cells.set k (cells[k] / m), st, k, ?_, ?_, ?_⟩ Kp.at_c⟩
          · rw [upd_ne ndc]
            exact hd
          · rw [upd_same, set_map]
          · rw [List.length_set]
            exact ⟨hl, n0, n1, st0, st1⟩
        · rintro σ' H' ⟨rfl, rfl⟩
          refine ⟨.int k, rfl, k, 1, rfl, rfl, .ref d, rfl, d, _, rfl, DPut.k (k := Sum.inr "at") hd (by show 3 < sizeLine; decide), ?_⟩
          rw [dkv_putAt]
          exact ⟨_, (k : Int) + 1, rfl, upd_same, by rw [upd_ne (Ne.symm ndc)]; exact hc, by omega, by omega, Kp.at_d⟩
      · exact ⟨_, (k : Int), rfl, hd, hc, n0, n1, Kp.refl⟩
    rintro σ' H2 ⟨y3, n, rfl, hd2, hc2, n20, n21, k2⟩
    have gSe : DGet H2 d (.str "seed") (some (.int st)) := by rw [← dkv_seed c n st]; exact DGet.k (k := Sum.inr "seed") hd2
    refine ⟨fun σ' H' => ∃ S : Int, σ' = [some (.ref d), some (.int m), some (.int k), y3, some (.int S), none] ∧ 0 ≤ S ∧ S < 2147483647 ∧ H' = H2, ?_, ?_⟩
    · exact ⟨.ref d, rfl, d, _, rfl, gSe, st, 48271, rfl, rfl, .inr ⟨by decide, by decide⟩, .int k, rfl, _, _, rfl, rfl, _, 3, rfl, rfl, _, 2147483647, rfl, rfl, show (0 : Int) < 2147483647 by decide, _, rfl, (mod_rng (by decide)).1, (mod_rng (by decide)).2, rfl⟩
    rintro σ' H' ⟨S, rfl, r10, r11, rfl⟩
    refine ⟨_, rfl, .ref d, rfl, d, _, rfl, DPut.k (k := Sum.inr "seed") hd2 (by show 3 < sizeLine; decide), ?_⟩
    rw [dkv_putSeed]
    have hd3 : (upd H' d (.dK (dkv c n S))) d = some (.dK (dkv c n S)) := upd_same
    have hc3 : (upd H' d (.dK (dkv c n S))) c = some (.lst (cells.map V.int)) := by rw [upd_ne (Ne.symm ndc)]; exact hc2
    have k3 : Kp d c H (upd H' d (.dK (dkv c n S))) := k2.trans Kp.at_d
    generalize upd H' d (.dK (dkv c n S)) = H3 at hd3 hc3 k3
    refine ⟨fun σ' H' => ∃ N : Int, σ' = [some (.ref d), some (.int m), some (.int k), y3, some (.int S), some (.int N)] ∧ 0 ≤ N ∧ N < 2147483563 ∧ H' = H3, ?_, ?_⟩
    · refine ⟨.int S, rfl, .int S, rfl, S, 5, rfl, rfl, ⟨by decide, by decide⟩, _, 39373, rfl, rfl, S, _, rfl, rfl, .inl ⟨by omega, by omega⟩, _, 69621, rfl, rfl, _, 2147483563, rfl, rfl, show (0 : Int) < 2147483563 by decide, _, rfl, (mod_rng (by decide)).1, (mod_rng (by decide)).2, rfl⟩
    rintro σ' H4 ⟨N, rfl, N0, N1, rfl⟩
    refine ⟨.int N, rfl, .int N, rfl, N, 7, rfl, rfl, ⟨by decide, by decide⟩, _, 11, rfl, rfl, N, _, rfl, rfl, .inl ⟨by omega, by omega⟩, _, 2147483587, rfl, rfl, show (0 : Int) < 2147483587 by decide, _, 16, rfl, rfl, ⟨by decide, by decide⟩, .int m, rfl, _, m, rfl, rfl, hm, ?_⟩
    exact q _ _ (mod_rng hm).1 (mod_rng hm).2 ⟨cells, S, n, hd3, hc3, hl, n20, n21, r10, r11⟩ k3
def spDeck (K : PySem.W.Frag) : Sp := fun vs H Q _ => ∃ (a : Addr) (ns : List Int), vs = [.ref a] ∧ SqL K H a (ns.map V.int) ∧ ns.length ≤ 63 ∧
  ∀ d c H', Same H H' → H d = none → H c = none → Deck H' d c → Q (.ref d) H'
theorem ok_l_deck {f : Addr} {fd : FuncData} (F : Fun K "_law_deck" "_law_deck" s_l_deck f fd) (M : Free mg) : FnOk P w K mg base CX0 1 f fd ["_law_script"] (spDeck K) := by
  refine F.ok sc_l_deck (fun vs H Q E h => ?_) (fun cdv A outer s H vs Q E hr h => ?_)
  · obtain ⟨a, ns, rfl, _⟩ := h
    rfl
  · obtain ⟨a, ns, rfl, hS, hl, q⟩ := h
    refine ⟨_, (pss_cons (ps_set (i := 1) sc_l_deck.nd rfl (.inl rfl) (pe_callTy call_list_of (by rfl) M.list (by decide +kernel) (pa_cons (pe_slice sl_list (pv 0) po_none (po_some pe_int)) pa_nil)))
      (pss_cons (ps_set (i := 2) sc_l_deck.nd rfl (.inl rfl) pe_int)
      (pss_cons (ps_for PassesOwn.never rfl (pi_list (pv 1)) (pg_name (i := 3) sc_l_deck.nd rfl (.inl rfl))
        (pss_one (ps_set (i := 2) sc_l_deck.nd rfl (.inl rfl) (pe_op op_mod (pe_op op_add (pe_op op_add (pe_op op_mul (pv 2) pe_int) (pe_op op_mod (pv 3) pe_int)) pe_int) pe_int))))
      (pss_one (ps_ret (pe_disp (pps_cons pe_str (pv 1) (pps_cons pe_str pe_int (pps_cons pe_str (pv 2) pps_nil))) (by rfl) (by rfl) (fun z => by cases z) (by decide))))))), ?_⟩
    obtain ⟨ms, em, lm⟩ := cutV_ints ns none (some 63)
    refine ⟨.ref a, rfl, 63, rfl, a, _, rfl, hS, fun p1 n1 => ⟨p1, _, rfl, .inl (SqL.of upd_same), fun p2 n2 => ?_⟩⟩
    rw [em] at n2 ⊢
    have s1 : Same H (upd H p1 (.lst (ms.map V.int))) := same_new n1
    have s2 := s1.trans (same_new (o := .lst (ms.map V.int)) n2)
    have h2 : (upd (upd H p1 (.lst (ms.map V.int))) p2 (.lst (ms.map V.int))) p2 = some (.lst (ms.map V.int)) := upd_same
    have f2 : H p2 = none := s1.free n2
    generalize upd (upd H p1 (.lst (ms.map V.int))) p2 (.lst (ms.map V.int)) = H2 at s2 h2
    refine ⟨.ref p2, rfl, p2, rfl, ⟨_, SqL.of h2⟩, ?_⟩
    refine for_list (xs := ms.map V.int) (fun i σ' H' => ∃ (y3 : Option V) (st : Int), σ' = [some (.ref a), some (.ref p2), some (.int st), y3] ∧ 0 ≤ st ∧ st < 2147483629 ∧ H' = H2) ⟨none, 17, rfl, by decide, by decide, rfl⟩ (fun i σ' H' _ h => by
      obtain ⟨_, _, _, _, _, rfl⟩ := h
      exact SqL.of h2) ?_ ?_
    · rintro i x σ' H' ex ⟨y3, st, rfl, s0, s1', rfl⟩
      rw [List.getElem?_map] at ex
      obtain ⟨e, he, rfl⟩ := Option.map_eq_some_iff.mp ex
      refine ⟨.int st, rfl, st, 69621, rfl, rfl, .inr ⟨by decide, by decide⟩, .int e, rfl, e, 1000000007, rfl, rfl, show (0 : Int) < 1000000007 by decide, _, _, rfl, rfl, _, 5, rfl, rfl, _, 2147483629, rfl, rfl, show (0 : Int) < 2147483629 by decide, _, _, rfl, (mod_rng (by decide)).1, (mod_rng (by decide)).2, rfl⟩
    · rintro σ' H' ⟨y3, st, rfl, s0, s1', rfl⟩
      refine fun D nD => ⟨.ref p2, rfl, .int st, rfl, upd_same, dkv p2 0 st, rfl, by show 3 ≤ 15; decide, ?_⟩
      rw [upd_upd, dkv_new]
      have hs := s2.trans (same_new (o := .dK (dkv p2 0 st)) nD)
      exact q D p2 _ hs (s2.free nD) f2 ⟨ms, st, 0, upd_same, same_new nD _ _ h2, by omega, by omega, by omega, s0, by omega⟩
/-! ### webs -/
structure Tie where
  one : Int
  other : Int
  foe : Bool
def kindS : Bool → Str
  | true => "foe"
  | false => "friend"
def TieV (H : Hp) (v : V) (t : Tie) : Prop := ∃ a, v = .ref a ∧ H a = some (.tup [.int t.one, .int t.other, .str (kindS t.foe)])
def TieOk (n : Int) (t : Tie) : Prop := 0 ≤ t.one ∧ t.one < n ∧ 0 ≤ t.other ∧ t.other < n ∧ t.one ≠ t.other
def WebAt (H : Hp) (v : V) (n : Int) (ts : List Tie) : Prop := ∃ a b vs, v = .ref a ∧ H a = some (.tup [.int n, .ref b]) ∧ H b = some (.tup vs) ∧ Paired (TieV H) vs ts
structure WebOk (n : Int) (ts : List Tie) : Prop where
  lo : 1 ≤ n
  hi : n ≤ 40
  few : ts.length ≤ 120
  ok : ∀ t ∈ ts, TieOk n t
/-- tuples stay -/
structure Tk (H H' : Hp) : Prop where
  tup : ∀ b xs, H b = some (.tup xs) → H' b = some (.tup xs)
  frz : ∀ b o xs, H b = some (.frz o (.tup xs)) → H' b = some (.frz o (.tup xs))
instance {H H' : Hp} : CoeFun (Tk H H') (fun _ => ∀ b xs, H b = some (.tup xs) → H' b = some (.tup xs)) := ⟨Tk.tup⟩
theorem Tk.trans {H H1 H2 : Hp} (a : Tk H H1) (b : Tk H1 H2) : Tk H H2 := ⟨fun x xs h => b.tup x xs (a.tup x xs h), fun x o xs h => b.frz x o xs (a.frz x o xs h)⟩
theorem Same.tk {H H' : Hp} (s : Same H H') : Tk H H' := ⟨fun b xs h => s b _ h, fun b o xs h => s b _ h⟩
theorem tk_dk {H : Hp} {l : Addr} {xs ys : List (Key × V)} (h : H l = some (.dK xs)) : Tk H (upd H l (.dK ys)) := ⟨fun b zs e => by
  rw [upd_ne (fun z => by rw [z, h] at e; cases e)]
  exact e, fun b o zs e => by
  rw [upd_ne (fun z => by rw [z, h] at e; cases e)]
  exact e⟩
theorem tk_lst {H : Hp} {l : Addr} {xs ys : List V} (h : H l = some (.lst xs)) : Tk H (upd H l (.lst ys)) := ⟨fun b zs e => by
  rw [upd_ne (fun z => by rw [z, h] at e; cases e)]
  exact e, fun b o zs e => by
  rw [upd_ne (fun z => by rw [z, h] at e; cases e)]
  exact e⟩
theorem TieV.tk {H H' : Hp} (k : Tk H H') {v : V} {t : Tie} (h : TieV H v t) : TieV H' v t := by
  obtain ⟨a, rfl, e⟩ := h
  exact ⟨a, rfl, k _ _ e⟩
theorem ties_tk {H H' : Hp} (k : Tk H H') {vs : List V} {ts : List Tie} (h : Paired (TieV H) vs ts) : Paired (TieV H') vs ts := Paired.mono (fun _ _ x => x.tk k) h
theorem WebAt.tk {H H' : Hp} (k : Tk H H') {v : V} {n : Int} {ts : List Tie} (h : WebAt H v n ts) : WebAt H' v n ts := by
  obtain ⟨a, b, vs, rfl, h1, h2, h3⟩ := h
  exact ⟨a, b, vs, rfl, k _ _ h1, k _ _ h2, ties_tk k h3⟩
theorem Kp.tk {d c : Addr} {H H' : Hp} (k : Kp d c H H') (D : Deck H d c) : Tk H H' := by
  obtain ⟨cells, st, n, e1, e2, _⟩ := D
  exact ⟨fun b xs e => k b _ (fun z => by rw [z, e1] at e; cases e) (fun z => by rw [z, e2] at e; cases e) e, fun b o xs e => k b _ (fun z => by rw [z, e1] at e; cases e) (fun z => by rw [z, e2] at e; cases e) e⟩
theorem Kp.mut {d c l : Addr} {H H' : Hp} {o : HO} (k : Kp d c H H') (h : H l = none) : Kp d c H (upd H' l o) := fun b u h1 h2 e => by
  rw [upd_ne (ne_of_none e h)]
  exact k b u h1 h2 e
theorem Deck.mut {H : Hp} {d c l : Addr} {o : HO} (D : Deck H d c) (h1 : l ≠ d) (h2 : l ≠ c) : Deck (upd H l o) d c := by
  obtain ⟨cells, st, n, e1, e2, e3⟩ := D
  exact ⟨cells, st, n, by rw [upd_ne (Ne.symm h1)]; exact e1, by rw [upd_ne (Ne.symm h2)]; exact e2, e3⟩
theorem Deck.new {H : Hp} {d c l : Addr} {o : HO} (D : Deck H d c) (h : H l = none) : Deck (upd H l o) d c := D.same (same_new h)
theorem Deck.ned {H : Hp} {d c l : Addr} (D : Deck H d c) (h : H l = none) : l ≠ d ∧ l ≠ c := by
  obtain ⟨cells, st, n, e1, e2, e3⟩ := D
  exact ⟨(ne_of_none e1 h).symm, (ne_of_none e2 h).symm⟩
theorem Paired.at {α β : Type} {F : α → β → Prop} : ∀ {l : List α} {m : List β} {i : Nat} {a : α}, Paired F l m → l[i]? = some a → ∃ b, m[i]? = some b ∧ F a b
  | _, _, _, _, .nil, e => by simp at e
  | _, _, 0, _, .cons r _, e => by simp at e; subst e; exact ⟨_, rfl, r⟩
  | _, _, i + 1, a, .cons _ t, e => by
    obtain ⟨u, h1, h2⟩ := Paired.at (i := i) (a := a) t (by simpa using e)
    exact ⟨u, by simpa using h1, h2⟩
theorem Paired.at' {α β : Type} {F : α → β → Prop} : ∀ {l : List α} {m : List β} {i : Nat} {b : β}, Paired F l m → m[i]? = some b → ∃ a, l[i]? = some a ∧ F a b
  | _, _, _, _, .nil, e => by simp at e
  | _, _, 0, _, .cons r _, e => by simp at e; subst e; exact ⟨_, rfl, r⟩
  | _, _, i + 1, b, .cons _ t, e => by
    obtain ⟨u, h1, h2⟩ := Paired.at' (i := i) (b := b) t (by simpa using e)
    exact ⟨u, by simpa using h1, h2⟩
theorem getI {α : Type} {xs : List α} {i : Int} (h0 : 0 ≤ i) (h1 : i < (xs.length : Int)) : ∃ v, atI xs i = some v ∧ xs[i.toNat]? = some v := by
  obtain ⟨j, rfl⟩ : ∃ j : Nat, i = (j : Int) := ⟨i.toNat, by omega⟩
  have h2 : j < xs.length := by omega
  exact ⟨xs[j], atI_nat (List.getElem?_eq_getElem h2), by rw [Int.toNat_natCast]; exact List.getElem?_eq_getElem h2⟩
theorem other_ne {n a b : Int} (h0 : 0 ≤ a) (h1 : a < n) (g0 : 0 ≤ b) (g1 : b < n - 1) : a ≠ (a + 1 + b) % n := by
  by_cases h : a + 1 + b < n
  · rw [Int.emod_eq_of_lt (by omega) h]
    omega
  · have e : a + 1 + b = (a + 1 + b - n) + 1 * n := by omega
    rw [e, Int.add_mul_emod_self_right, Int.emod_eq_of_lt (by omega) (by omega)]
    omega
theorem pick2 {α : Type} (a b : α) (k : Bool) : atI [a, b] (if k then 1 else 0) = some (if k then b else a) := by
  cases k <;> rfl
def spWeb : Sp := fun vs H Q _ => ∃ (d c : Addr), vs = [.ref d] ∧ Deck H d c ∧
  ∀ v n ts H', WebAt H' v n ts → WebOk n ts → Deck H' d c → Kp d c H H' → Q v H'
end
/-! ### tuples cut and put together -/
section
variable {X : Cx}
theorem cutV_whole {xs : List V} {lo hi : Option Int} (h : HT.sIx xs.length 0 lo = 0 ∧ HT.sIx xs.length xs.length hi = xs.length) : cutV xs lo hi = xs := by
  unfold cutV
  rw [h.1, h.2]
  simp
def rSlU : V → Option Int → Option Int → Hp → VK → Prop := fun x lo hi H Q => ∃ a xs, x = .ref a ∧ H a = some (.tup xs) ∧ ∀ r H', Same H H' → H' r = some (.tup (cutV xs lo hi)) → Q (.ref r) H'
theorem sl_tupU : SlR X rSlU := by
  intro pins s σ H x v vl vu lo hi sl Q I rx hs pl pu h
  obtain ⟨a, xs, rfl, hx, q⟩ := h
  refine sl_tupA pins s σ H _ v vl vu lo hi sl Q I rx hs pl pu ⟨a, xs, rfl, SqT.of hx, fun hw => ?_, fun _ p np => ?_⟩
  · exact q a H (Same.refl H) (by rw [cutV_whole hw]; exact hx)
  · exact q p _ (same_new np) upd_same
def rCatU : R2 := fun x y H Q => ∃ a b xs ys, x = .ref a ∧ y = .ref b ∧ H a = some (.tup xs) ∧ H b = some (.tup ys) ∧ xs.length + ys.length ≤ 100000 ∧ ∀ r H', Same H H' → H' r = some (.tup (xs ++ ys)) → Q (.ref r) H'
theorem op_catU : OpR X (binaryOp .Add) rCatU := by
  intro pins s σ H x y v u Q I rx ry h
  obtain ⟨a, b, xs, ys, rfl, rfl, ha, hb, hz, q⟩ := h
  refine op_catA pins s σ H _ _ v u Q I rx ry ⟨a, b, xs, ys, rfl, rfl, SqT.of ha, SqT.of hb, Evl.sz_of hz, fun e => ?_, fun _ e => ?_, fun _ _ p np => ?_⟩
  · subst e
    exact q b H (Same.refl H) hb
  · subst e
    exact q a H (Same.refl H) (by rw [List.append_nil]; exact ha)
  · exact q p _ (same_new np) upd_same
end
/-! ### things of any kind -/
/-- its kind is known -/
def Kn (H : Hp) : V → Prop
  | .non => True
  | .bl _ => True
  | .int _ => True
  | .str _ => True
  | .ref a => (∃ xs, H a = some (.lst xs)) ∨ (∃ xs, H a = some (.tup xs)) ∨ ∃ kvs, H a = some (.dK kvs)
  | _ => False
def isI : V → Bool
  | .int _ => true
  | .bl _ => true
  | _ => false
def isB : V → Bool
  | .bl _ => true
  | _ => false
def isW : V → Bool
  | .int _ => true
  | _ => false
def isT (H : Hp) : V → Bool
  | .ref a => match H a with
    | some (.tup _) => true
    | _ => false
  | _ => false
section
variable {K : PySem.W.Frag} {H : Hp}
theorem kn_int {v : V} (h : Kn H v) : ∃ t, TyX K H v t ∧ PySem.W.kitOne K t (.type "int") = some (isI v) := by
  cases v with
  | non => exact ⟨_, .base .non, kit_ty (r := false) (by decide +kernel)⟩
  | bl b => exact ⟨_, .base (.bl b), kit_ty (r := true) (by decide +kernel)⟩
  | int i => exact ⟨_, .base (.int i), kit_ty (r := true) (by decide +kernel)⟩
  | str x => exact ⟨_, .base (.str x), kit_ty (r := false) (by decide +kernel)⟩
  | ref a =>
    rcases h with ⟨xs, h⟩ | ⟨xs, h⟩ | ⟨xs, h⟩
    · exact ⟨_, .base (.lst h), kit_ty (r := false) (by decide +kernel)⟩
    · exact ⟨_, .base (.tup h), kit_ty (r := false) (by decide +kernel)⟩
    · exact ⟨_, .base (.dK h), kit_ty (r := false) (by decide +kernel)⟩
  | byt b => exact h.elim
  | flt b => exact h.elim
  | ty n => exact h.elim
theorem kn_bool {v : V} (h : Kn H v) : ∃ t, TyX K H v t ∧ PySem.W.kitOne K t (.type "bool") = some (isB v) := by
  cases v with
  | non => exact ⟨_, .base .non, kit_ty (r := false) (by decide +kernel)⟩
  | bl b => exact ⟨_, .base (.bl b), kit_ty (r := true) (by decide +kernel)⟩
  | int i => exact ⟨_, .base (.int i), kit_ty (r := false) (by decide +kernel)⟩
  | str x => exact ⟨_, .base (.str x), kit_ty (r := false) (by decide +kernel)⟩
  | ref a =>
    rcases h with ⟨xs, h⟩ | ⟨xs, h⟩ | ⟨xs, h⟩
    · exact ⟨_, .base (.lst h), kit_ty (r := false) (by decide +kernel)⟩
    · exact ⟨_, .base (.tup h), kit_ty (r := false) (by decide +kernel)⟩
    · exact ⟨_, .base (.dK h), kit_ty (r := false) (by decide +kernel)⟩
  | byt b => exact h.elim
  | flt b => exact h.elim
  | ty n => exact h.elim
theorem kn_tup {v : V} (h : Kn H v) : ∃ t, TyX K H v t ∧ PySem.W.kitOne K t (.type "tuple") = some (isT H v) := by
  cases v with
  | non => exact ⟨_, .base .non, kit_ty (r := false) (by decide +kernel)⟩
  | bl b => exact ⟨_, .base (.bl b), kit_ty (r := false) (by decide +kernel)⟩
  | int i => exact ⟨_, .base (.int i), kit_ty (r := false) (by decide +kernel)⟩
  | str x => exact ⟨_, .base (.str x), kit_ty (r := false) (by decide +kernel)⟩
  | ref a =>
    unfold isT
    rcases h with ⟨xs, h⟩ | ⟨xs, h⟩ | ⟨xs, h⟩
    · exact ⟨_, .base (.lst h), by simp only [h]; exact kit_ty (r := false) (by decide +kernel)⟩
    · exact ⟨_, .base (.tup h), by simp only [h]; exact kit_ty (r := true) (by decide +kernel)⟩
    · exact ⟨_, .base (.dK h), by simp only [h]; exact kit_ty (r := false) (by decide +kernel)⟩
  | byt b => exact h.elim
  | flt b => exact h.elim
  | ty n => exact h.elim
theorem isT_at {v : V} (h : isT H v = true) : ∃ a xs, v = .ref a ∧ H a = some (.tup xs) := by
  cases v with
  | ref a =>
    unfold isT at h
    cases e : H a with
    | none => simp only [e] at h; cases h
    | some o =>
      cases o with
      | tup xs => exact ⟨a, xs, rfl, e⟩
      | _ => simp only [e] at h; cases h
  | _ => cases h
theorem isT_of {a : Addr} {xs : List V} (h : H a = some (.tup xs)) : isT H (.ref a) = true := by
  unfold isT
  simp only [h]
end
section
variable {P : Program} {w : World} {K : PySem.W.Frag} {mg : Str → Option Value} {base : Heap}
def spWhole : Sp := fun vs H Q _ => ∃ v, vs = [v] ∧ Kn H v ∧ Q (.bl (isW v)) H
theorem and_whole {v : V} : (isI v && !isB v) = isW v := by cases v <;> rfl
theorem ok_is_whole {f : Addr} {fd : FuncData} (F : Fun K "is_whole" "is_whole" s_is_whole f fd) (M : Free mg) : FnOk P w K mg base CX0 1 f fd ["thing"] spWhole := by
  refine F.ok sc_is_whole (fun vs H Q E h => ?_) (fun cdv A outer s H vs Q E hr h => ?_)
  · obtain ⟨v, rfl, _⟩ := h
    rfl
  · obtain ⟨v, rfl, hk, q⟩ := h
    refine ⟨_, (pss_one (ps_ret (pe_and (pe_callB call_isi (by rfl) M.isinstance (by decide +kernel) (pa_cons (pv 0) (pa_cons (pe_bltn (v := .ty "int") (by rfl) M.int (by decide +kernel) rfl) pa_nil))) (pe_one (pe_not (pe_callB call_isi (by rfl) M.isinstance (by decide +kernel) (pa_cons (pv 0) (pa_cons (pe_bltn (v := .ty "bool") (by rfl) M.bool (by decide +kernel) rfl) pa_nil)))))))), ?_⟩
    obtain ⟨t1, h1, e1⟩ := kn_int (K := K) hk
    obtain ⟨t2, h2, e2⟩ := kn_bool (K := K) hk
    refine ⟨v, rfl, v, _, t1, _, _, rfl, .ty "int", h1, e1, _, rfl, ?_⟩
    rw [← and_whole] at q
    cases hi : isI v with
    | false =>
      rw [hi] at q
      exact q
    | true =>
      rw [hi] at q
      exact ⟨v, rfl, v, _, t2, _, _, rfl, .ty "bool", h2, e2, _, rfl, q⟩
def wfrom (lo : Int) : V → Bool
  | .int i => decide (lo ≤ i)
  | _ => false
def spFrom : Sp := fun vs H Q _ => ∃ lo v, vs = [.int lo, v] ∧ Kn H v ∧ Q (.bl (wfrom lo v)) H
theorem ok_is_whole_from {f : Addr} {fd : FuncData} (F : Fun K "is_whole_from" "is_whole_from" s_is_whole_from f fd) (Dw : Df P w K mg base 1 "is_whole" ["thing"] spWhole) : FnOk P w K mg base CX0 2 f fd ["low", "thing"] spFrom := by
  obtain ⟨fW, fdW, GW, gW, kW, bW⟩ := Dw
  refine F.ok sc_is_whole_from (fun vs H Q E h => ?_) (fun cdv A outer s H vs Q E hr h => ?_)
  · obtain ⟨lo, v, rfl, _⟩ := h
    rfl
  · obtain ⟨lo, v, rfl, hk, q⟩ := h
    refine ⟨_, (pss_one (ps_ret (pe_and (pe_call GW hr (by rfl) gW kW bW .nil pass0 (pa_cons (pv 1) pa_nil)) (pe_one (pe_cmpR op_ge (pv 1) (pv 0) (nomark _)))))), ?_⟩
    refine ⟨v, rfl, v, rfl, hk, _, rfl, ?_⟩
    cases v with
    | int i => exact ⟨.int i, rfl, .int lo, rfl, i, lo, rfl, rfl, q⟩
    | _ => exact q
/-- the parts of a tuple -/
def parts (H : Hp) : V → Option (List V)
  | .ref a => match H a with
    | some (.tup xs) => some xs
    | _ => none
  | _ => none
theorem parts_of' {H : Hp} {a : Addr} {xs : List V} (h : H a = some (.tup xs)) : parts H (.ref a) = some xs := by
  unfold parts
  simp only [h]
theorem parts_none {H : Hp} {v : V} (h : isT H v = false) : parts H v = none := by
  cases v with
  | ref a =>
    unfold isT at h
    unfold parts
    cases e : H a with
    | none => simp only [e]
    | some o =>
      cases o with
      | tup xs => simp only [e] at h; cases h
      | _ => simp only [e]
  | _ => rfl
def lenIs (H : Hp) (v : V) (n : Int) : Bool := match parts H v with
  | some xs => decide ((xs.length : Int) = n)
  | none => false
def spTupleOf : Sp := fun vs H Q _ => ∃ n v, vs = [.int n, v] ∧ Kn H v ∧ Q (.bl (lenIs H v n)) H
theorem dec_int (a b : Int) : decide (V.int a = V.int b) = decide (a = b) := by
  by_cases h : a = b
  · rw [decide_eq_true h, h, decide_eq_true rfl]
  · rw [decide_eq_false h, decide_eq_false (fun z => h (V.int.inj z))]
theorem ok_is_tuple_of {f : Addr} {fd : FuncData} (F : Fun K "is_tuple_of" "is_tuple_of" s_is_tuple_of f fd) (M : Free mg) : FnOk P w K mg base CX0 1 f fd ["length", "thing"] spTupleOf := by
  refine F.ok sc_is_tuple_of (fun vs H Q E h => ?_) (fun cdv A outer s H vs Q E hr h => ?_)
  · obtain ⟨n, v, rfl, _⟩ := h
    rfl
  · obtain ⟨n, v, rfl, hk, q⟩ := h
    refine ⟨_, (pss_one (ps_ret (pe_and (pe_callB call_isi (by rfl) M.isinstance (by decide +kernel) (pa_cons (pv 1) (pa_cons (pe_bltn (v := .ty "tuple") (by rfl) M.tuple (by decide +kernel) rfl) pa_nil))) (pe_one (pe_cmpR op_eq (pe_callB call_len_seq (by rfl) M.len PySem.boot_len (pa_cons (pv 1) pa_nil)) (pv 0) (nomark _)))))), ?_⟩
    obtain ⟨t1, h1, e1⟩ := kn_tup (K := K) hk
    refine ⟨v, rfl, v, _, t1, _, _, rfl, .ty "tuple", h1, e1, _, rfl, ?_⟩
    unfold lenIs at q
    cases hi : isT H v with
    | false =>
      rw [parts_none hi] at q
      exact q
    | true =>
      obtain ⟨a, xs, rfl, e⟩ := isT_at hi
      rw [parts_of' e] at q
      refine ⟨.ref a, rfl, a, xs, rfl, .inr (SqT.of e), .int n, rfl, rfl, ?_⟩
      rw [dec_int]
      exact q
/-! ### a def whose code object stands at c: its own table is at Pt -/
structure FunC (K : PySem.W.Frag) (x qual : Str) (st : Stmt) (f : Addr) (fd : FuncData) (c : Addr) : Prop where
  ex : ∃ (oc : Value) (od : Option Addr) (kV doc pm : Value) (an : Option Addr) (ct : Value) (osl : Array (Option Value)),
    fd = PySem.W.fnOf x qual (defArgs st) (defBody st) (defScope st) .none kV doc pm an (.ref c) ct ∧ K.lookup f = some ⟨oc, od, .func fd, osl⟩ ∧ PySem.W.codeIn K (.ref c) qual = true
  kp : PySem.W.keepIn K (.ref f) = true
theorem FunC.ok {x qual : Str} {st : Stmt} {f c : Addr} {fd : FuncData} {N ps : List Str} {k : Nat} {sp : Sp} (F : FunC K x qual st f fd c) (S : FnScope N ps (defScope st)) (len : ∀ vs H Q E, sp vs H Q E → vs.length = ps.length)
    (hbody : ∀ (A : Around) (outer : List Env) (s : Shared) (H : Hp) (vs : List V) (Q : VK) (E : XK), Room k (A.deeper (envOfC qual (defScope st) s.heap.objs.size f (.ref c))) → sp vs H Q E →
      ∃ t, PSs (cxOf CX0 P w K mg base N qual (defScope st) f (.ref c) A outer s H E).nox (defBody st) t ∧ t { nx := fun _ H' => Q .non H', rt := Q } (start N vs) H) : FnOk P w K mg base CX0 (k + 1) f fd ps sp := by
  obtain ⟨oc, od, kV, doc, pm, an, ct, osl, rfl, lk, hcd⟩ := F.ex
  refine fn_of lk hcd S len fun A outer s H vs Q E hr hsp => ?_
  obtain ⟨t, h, q⟩ := hbody A outer s H vs Q E hr hsp
  exact ⟨t, h.nox, q⟩
theorem FunC.fn {x qual : Str} {st : Stmt} {f c : Addr} {fd : FuncData} (F : FunC K x qual st f fd c) : Fun K x qual st f fd := by
  obtain ⟨oc, od, kV, doc, pm, an, ct, osl, rfl, lk, hcd⟩ := F.ex
  exact ⟨⟨oc, od, kV, doc, pm, an, _, ct, osl, rfl, lk, hcd⟩, F.kp⟩
theorem parts_at {H : Hp} {v : V} {xs : List V} (h : parts H v = some xs) : ∃ a, v = .ref a ∧ H a = some (.tup xs) := by
  cases v with
  | ref a =>
    unfold parts at h
    cases e : H a with
    | none => simp only [e] at h; cases h
    | some o =>
      cases o with
      | tup ys => simp only [e] at h; cases h; exact ⟨a, rfl, e⟩
      | _ => simp only [e] at h; cases h
  | _ => cases h
end
/-! ### all but the tables is kept -/
structure Kt (Ps : List Addr) (H H' : Hp) : Prop where
  tab : ∀ P ∈ Ps, GxR.TabG H' P
  keep : ∀ b o, b ∉ Ps → H b = some o → H' b = some o
def Tabs (Ps : List Addr) (H : Hp) : Prop := ∀ P ∈ Ps, GxR.TabG H P
theorem Kt.refl {Ps : List Addr} {H : Hp} (h : Tabs Ps H) : Kt Ps H H := ⟨h, fun _ _ _ e => e⟩
theorem Kt.trans {Ps : List Addr} {H H1 H2 : Hp} (a : Kt Ps H H1) (b : Kt Ps H1 H2) : Kt Ps H H2 := ⟨b.tab, fun x o h e => b.keep x o h (a.keep x o h e)⟩
theorem Kt.same {Ps : List Addr} {H H' : Hp} (h : Tabs Ps H) (s : Same H H') : Kt Ps H H' := ⟨fun P hP => by obtain ⟨ps, e, t⟩ := h P hP; exact ⟨ps, s _ _ e, t⟩, fun b o _ e => s b o e⟩
theorem Kt.tabbed {Ps : List Addr} {P : Addr} {H H' : Hp} (h : Tabs Ps H) (hP : P ∈ Ps) (t : GxR.Tabbed P H H') : Kt Ps H H' := by
  refine ⟨fun Q hQ => ?_, fun b o hb e => ?_⟩
  · by_cases e : Q = P
    · rw [e]
      exact t.1
    · obtain ⟨ps, e1, t1⟩ := h Q hQ
      exact ⟨ps, by rw [t.2 Q e]; exact e1, t1⟩
  · rw [t.2 b (fun z => hb (by rw [z]; exact hP))]
    exact e
theorem Tabs.out {Ps : List Addr} {H : Hp} {a : Addr} {o : HO} (t : Tabs Ps H) (h : H a = some o) (no : ∀ ps, o ≠ .tbl ps) : a ∉ Ps := fun z => by
  obtain ⟨ps, e, _⟩ := t a z
  rw [e] at h
  cases h
  exact no _ rfl
theorem Kt.tup {Ps : List Addr} {a : Addr} {H H' : Hp} {xs : List V} (k : Kt Ps H H') (t : Tabs Ps H) (h : H a = some (.tup xs)) : H' a = some (.tup xs) := k.keep a _ (t.out h fun _ z => by cases z) h
theorem Kt.lst {Ps : List Addr} {a : Addr} {H H' : Hp} {xs : List V} (k : Kt Ps H H') (t : Tabs Ps H) (h : H a = some (.lst xs)) : H' a = some (.lst xs) := k.keep a _ (t.out h fun _ z => by cases z) h
theorem Kt.dct {Ps : List Addr} {a : Addr} {H H' : Hp} {xs : List (Key × V)} (k : Kt Ps H H') (t : Tabs Ps H) (h : H a = some (.dK xs)) : H' a = some (.dK xs) := k.keep a _ (t.out h fun _ z => by cases z) h
theorem Kt.tk {Ps : List Addr} {H H' : Hp} (k : Kt Ps H H') (t : Tabs Ps H) : Tk H H' := ⟨fun _ _ e => k.tup t e, fun b o xs e => k.keep b _ (t.out e fun _ z => by cases z) e⟩
theorem Kt.kn {Ps : List Addr} {H H' : Hp} (k : Kt Ps H H') (t : Tabs Ps H) {v : V} (h : Kn H v) : Kn H' v := by
  cases v with
  | ref a =>
    rcases h with ⟨xs, h⟩ | ⟨xs, h⟩ | ⟨xs, h⟩
    · exact .inl ⟨xs, k.lst t h⟩
    · exact .inr (.inl ⟨xs, k.tup t h⟩)
    · exact .inr (.inr ⟨xs, k.dct t h⟩)
  | _ => exact h
theorem Kt.deck {Ps : List Addr} {d c : Addr} {H H' : Hp} (k : Kt Ps H H') (t : Tabs Ps H) (D : Deck H d c) : Deck H' d c := by
  obtain ⟨cells, st, n, e1, e2, e3⟩ := D
  exact ⟨cells, st, n, k.dct t e1, k.lst t e2, e3⟩
/-! ### x in t of data of any depth -/
def rInT (K : PySem.W.Frag) : R2 := fun x y H Q => ∃ d ds, Dp K H x d ∧ Dp K H y (.tuple ds) ∧ SeqAt.shaped d = true ∧ SeqAt.shaped (.tuple ds) = true ∧ Q (.bl (ds.any fun z => PyData.eqv z d)) H
theorem op_inTup {X : Cx} (hu : X.A.units + 65 < cLine) : OpR X (compareOp .In) (rInT X.K) := by
  intro pins s σ H x y v u Q I rx ry want
  obtain ⟨d, ds, hd, he, sd, se, q⟩ := want
  obtain ⟨as, r1⟩ := Dp.reads I d x v hd rx
  obtain ⟨bs, r2⟩ := Dp.reads I (.tuple ds) y u he ry
  have lay : PyData.canLayAll0 ds = true := by
    have z := SeqAt.canLay_of_shaped se
    rw [PyData.canLay0] at z
    exact z
  have deep := SeqAt.depth_of_shaped sd
  exact SeqAt.in_tuple_reads r2 r1 lay (SeqAt.canLay_of_shaped sd) (by omega) ⟨.bl _, H, I, rfl, q⟩
/-! ### tuples that are known to have no dict: their methods -/
def NoD (H : Hp) (p : Addr) (xs : List V) : Prop := ∃ o : Obj, o.dict = none ∧ H p = some (.frz o (.tup xs))
theorem NoD.same {H H' : Hp} {p : Addr} {xs : List V} (h : NoD H p xs) (s : Same H H') : NoD H' p xs := by
  obtain ⟨o, h1, h2⟩ := h
  exact ⟨o, h1, s _ _ h2⟩
theorem NoD.sq {K : PySem.W.Frag} {H : Hp} {p : Addr} {xs : List V} (h : NoD H p xs) : SqT K H p xs := by
  obtain ⟨o, h1, h2⟩ := h
  exact .inl (.inr ⟨o, h2⟩)
theorem NoD.tk {H H' : Hp} {p : Addr} {xs : List V} (h : NoD H p xs) (k : Tk H H') : NoD H' p xs := by
  obtain ⟨o, h1, h2⟩ := h
  exact ⟨o, h1, k.frz _ _ _ h2⟩
section
variable {X : Cx}
theorem call_tuple_ofZ : CallR X (.type "tuple") (fun xs H Q => ∃ p ys, xs = [.ref p] ∧ SqL X.K H p ys ∧ ∀ l o, o.dict = none → H l = none → Q (.ref l) (upd H l (.frz o (.tup ys)))) := by
  intro pins s σ H xs us Q I r h
  obtain ⟨p, ys, rfl, hq, q⟩ := h
  obtain ⟨u, rfl, rx⟩ := vals1 r
  cases rx
  obtain ⟨its, r', pl, hz⟩ := I.list hq
  have hlen := r'.length
  refine call_tuple_list pl.isList (fun h' kp => ?_) (by simp only [List.size_toArray] <;> omega)
  have I1 : Inv X pins σ H { s with heap := h' } := I.kept (t' := s.toks) kp
  have I2 : Inv X pins σ (upd H h'.objs.size (.frz { cls := .type "tuple", data := .seq its.toArray } (.tup ys))) { s with heap := h'.push { cls := .type "tuple", data := .seq its.toArray } } :=
    I1.laid (t' := s.toks) (fun b o e => Heap.get?_push_of_some _ e) (Nat.le_refl _) (show ObjOk X.prog X.w _ _ _ (.frz { cls := .type "tuple", data := .seq its.toArray } (.tup ys)) from ⟨Heap.get?_push_size _ rfl, hz, its, r', IsTup.new _ _⟩)
  exact ⟨.ref h'.objs.size, _, I2, rfl, q _ _ rfl (I1.hok.fresh (Nat.le_refl _))⟩
/-- a method of such a tuple -/
def tBMT (r : V → List V → Hp → VK → Prop) (to : TE) (t : TA) : TE := fun σ H Q => to σ H fun x H1 => (∃ p xs, x = .ref p ∧ NoD H1 p xs) ∧ t σ H1 fun xs H2 => r x xs H2 Q
theorem pe_bmT {o e : Expr} {es : List Expr} {to : TE} {t : TA} {name : Str} {apos cpos : Pos} {id : String} {r : V → List V → Hp → VK → Prop} (slot : Slot "tuple" name id) (hty : typeOf (.builtin id) = pure (.type "method_descriptor")) (hm : MtR X id r) (ho : PE X o to) (ha : PA X (e :: es) t)
    (hbase : attributeBase o name X.env (eval o X.env) = eval o X.env := by rfl)
    (hfew : ((backTo cpos (starEach (e :: es) X.env)).all (fun x => !x.1) && (backToKw cpos (keywordEach [] X.env)).all (fun x => x.1.isSome)
      && decide ((e :: es).length + ([] : List Keyword).length + (if ([] : List Keyword).isEmpty then 0 else 1) < 30)) = true := by rfl)
    (hline : (apos.endLine == cpos.line) = true := by rfl) (hs : starEach (e :: es) X.env = (false, eval e X.env) :: starEach es X.env := by rfl) (hplain : (backTo cpos (starEach es X.env)).any (·.1) = false := by rfl) :
    PE X (.Call (.Attribute o name apos) (e :: es) [] cpos) (tBMT r to t) := by
  refine ⟨fun pins s σ H Q I h => ?_⟩
  refine wpAny_Call_method_late hbase hfew hline rfl (thn (ho.run pins s σ H _ I h) fun v s1 ⟨x, H1, I1, r1, ⟨p, xs, ex, ob, od, hp⟩, q1⟩ => ?_)
  subst ex
  obtain rfl : v = Value.ref p := r1
  obtain ⟨e1, hz, its, rv, o2, e2, c2, n2, d2⟩ := (show ObjOk X.prog X.w H1 s1.heap p (.frz ob (.tup xs)) from I1.hok p _ hp)
  rw [e1] at e2
  cases e2
  refine ⟨"tuple", id, PySem.F.plainAttrs_tuple, slot, hty, ⟨ob, e1, c2⟩, fun a ea => ?_, ?_⟩
  · cases ea
    exact ⟨ob, e1, od⟩
  have hA := ha.run cpos pins s1 σ H1 _ I1 q1
  rw [hs] at hA ⊢
  refine Calls.callWith_builtin (by show (false || (backTo cpos (starEach es X.env)).any (·.1)) = false; rw [hplain] <;> rfl) (Calls.evalArgs_plain ?_)
  exact thn hA fun us s2 ⟨vs, H2, I2, r2, q2⟩ => hm pins s2 σ H2 (.ref p) vs (.ref p) us Q I2 rfl r2 q2
end
/-! ### enumerate of a tuple -/
set_option maxHeartbeats 1000000 in
theorem meets_enumOne {v : Value} {o : Obj} {S : Heap → Prop} (B : Begins v o S) : Meets (Builtin.«enumerate.__new__» ⟨[.type "enumerate", v], []⟩) (fun _ R s => S s.heap ∧
      R (.ok (.ret (.ref (s.heap.push o).objs.size))) { s with heap := (s.heap.push o).push { cls := .type "enumerate", data := .fields #[.none, .bool false, .ref s.heap.objs.size, rawInt 0, .none, .none] } }) :=
  .of_wp fun prog w A R s h => by
    obtain ⟨hp, g, d, tk, os⟩ := s
    obtain ⟨h1, h⟩ := h
    have sub0 := sub_enumerate
    have begun : ∀ {A' : PySem.Around} {E : Value → Shared → Prop} {Q : Value → Shared → Prop}, Q (.ref hp.objs.size) ⟨hp.push o, g, d, tk, os⟩ → wpAny (model prog w) A' (pyIter v) Q E ⟨hp, g, d, tk, os⟩ := fun q => B.iter prog w _ _ ⟨hp, g, d, tk, os⟩ _ h1 q
    wp_walk using begun
    refine wpAny_stack_any fun st => wpAny_pure ?_
    split
    · rename_i c _ _ _ _ _
      cases (c == Value.type "enumerate")
      all_goals
        wp_walk using begun
        exact ⟨_, rfl, h⟩
    · wp_walk using begun
      exact ⟨_, rfl, h⟩
theorem call_enumT {P : Program} {w : World} {A : PySem.Around} {E : Value → Shared → Prop} {s : Shared} {t : Addr} {items : Array Value} {Q : Value → Shared → Prop} (ht : s.heap.IsTuple t items)
    (h : ∀ h', IsEnum h' (s.heap.objs.size + 1) s.heap.objs.size 0 .none → h'.IsTupleIter s.heap.objs.size t 0 → (∀ b o, s.heap.get? b = some o → h'.get? b = some o) → Q (.ref (s.heap.objs.size + 1)) { s with heap := h' }) : wpAny (model P w) A (call (.type "enumerate") [.ref t]) Q E s := by
  refine callType_new PySem.F.called_enumerate (by decide) (PySem.F.typeCall_enumerate_1 _) (PySem.F.newCall_enumerate_1 _) (fun ob => PySem.F.args_object_init_2 ob _) PySem.F.entry_enumerate_new (meets_enumOne (begins_tuple t items)) ⟨ht, ?_⟩
  have size1 := Heap.size_push s.heap { cls := .type "tuple_iterator", data := .fields #[.ref t, .int 0 0] }
  have en := Heap.get?_push_size (s.heap.push { cls := .type "tuple_iterator", data := .fields #[.ref t, .int 0 0] }) (o := { cls := .type "enumerate", data := .fields #[.none, .bool false, .ref s.heap.objs.size, rawInt 0, .none, .none] }) rfl
  rw [size1] at en
  show _ ∧ _
  rw [size1]
  exact ⟨⟨_, en, rfl⟩, h _ en ⟨_, Heap.get?_push_of_some _ (Heap.get?_push_size _ rfl), rfl, rfl⟩ fun b o e => Heap.get?_push_of_some _ (Heap.get?_push_of_some _ e)⟩
/-- the turns: a new pair each, of the number and the part -/
def ItN (K : PySem.W.Frag) (a : Addr) : It where
  go := fun i H => ∃ (xs : List V) (x : V), SqT K H a xs ∧ xs[i]? = some x
  yld := fun i H v H' => ∃ T x, v = .ref T ∧ H T = none ∧ H' = upd H T (.tup [.int (i : Nat), x]) ∧ ∀ xs, SqT K H a xs → xs[i]? = some x
  stop := fun i H => ∃ xs : List V, SqT K H a xs ∧ xs.length ≤ i
theorem turn_enumT {P : Program} {w : World} {K : PySem.W.Frag} {elts : List Expr} {kk : Nat} {tpos : Pos} (a e it : Addr) (n1 : e ≠ it) (n2 : a ≠ it) (n3 : e ≠ a) :
    Turn P w K (.Tuple elts kk tpos) (ItN K a) [e, it] e (fun i h => (∃ old, IsEnum h e it ((i : Nat) : Int) old) ∧ h.IsTupleIter it a i) where
  mem := List.mem_cons_self
  obj := by
    rintro i h ⟨⟨old, he⟩, o, ho, hc, hd⟩ b hb
    rcases List.mem_cons.mp hb with rfl | hb
    · exact ⟨_, he, fun v q => nomatch q⟩
    · rw [List.mem_singleton.mp hb]
      exact ⟨o, ho, fun v q => by rw [hd] at q; cases q⟩
  keep := by
    rintro i h h' ⟨⟨old, he⟩, hit⟩ kp
    exact ⟨⟨old, kp e (by simp) _ he⟩, hit.at fun o q => kp it (by simp) o q⟩
  item := by
    intro X hP hw hK hc i pins s σ H E I hf st hg
    subst hP hw hK
    obtain ⟨⟨old, he⟩, hit⟩ := st
    obtain ⟨xs, x, hq, hx⟩ := hg
    obtain ⟨its, rv, tup, _⟩ := I.tuple hq
    obtain ⟨u, hu, ru⟩ := rv.get hx
    have le := Heap.lt_size he
    have li : it < s.heap.objs.size := let ⟨_, q, _⟩ := hit; Heap.lt_size q
    have lt : i < its.toArray.size := by simpa using (List.getElem?_eq_some_iff.mp hu).1
    refine wpAny_pyNext_enum_itemD (Draws.tuple (A := X.A.in1) (I.ok.hd hc) it a n2 its.toArray) he ⟨hit, tup⟩ lt n1 (by simp [n1, n3]) fun x' h' tk ex out st' new _ kp => ?_
    obtain rfl : u = x' := Option.some.inj (((by simpa using hu) : its.toArray[i]? = some u).symm.trans ex)
    refine ⟨_, rfl, wpAny_letOwnedTupleGo_enum (s := { s with heap := h', toks := tk + 1 }) out fun h2 he2 sb => ?_⟩
    have new2 : h2.get? s.heap.objs.size = some { cls := .type "tuple", data := .seq #[.int i tk, u] } := (sb.2 _ (Nat.ne_of_gt le)).trans new
    have objT : ObjOk X.prog X.w (upd H s.heap.objs.size (.tup [.int (i : Nat), x])) h2 s.heap.objs.size (.tup [.int (i : Nat), x]) := ⟨by show 2 ≤ sizeLine; decide, [.int i tk, u], .cons ⟨_, rfl⟩ (.cons ru .nil), ⟨_, new2, rfl, _, rfl⟩⟩
    have J : Inv X pins σ (upd H s.heap.objs.size (.tup [.int (i : Nat), x])) { s with heap := h2, toks := tk + 1 } := I.turnedNew (ch := [e, it]) (fun b ob hb q => by
      simp only [List.mem_cons, List.not_mem_nil, or_false, not_or] at hb
      exact (sb.2 b hb.1).trans (kp b ob hb.1 hb.2 q)) hf (Nat.le_refl _) objT
    refine ⟨.ref s.heap.objs.size, _, J, rfl, ⟨_, x, rfl, I.hok.fresh (Nat.le_refl _), rfl, fun ys hy => by rw [I.tuple_inj hy hq]; exact hx⟩, ⟨⟨u, ?_⟩, st'.1.at fun o q => (sb.2 it (Ne.symm n1)).trans q⟩, fun b hb => ?_⟩
    · rw [show ((i + 1 : Nat) : Int) = (i : Int) + 1 from by omega]
      exact he2
    · have lb : b < s.heap.objs.size := by
        rcases List.mem_cons.mp hb with rfl | hb
        · exact le
        · rw [List.mem_singleton.mp hb]
          exact li
      rw [upd_ne (Nat.ne_of_lt lb)]
      exact (hf b hb).1
  done := by
    intro X hP hw hK hc i pins s σ H E I hf st hg
    subst hP hw hK
    obtain ⟨⟨old, he⟩, hit⟩ := st
    obtain ⟨xs, hq, hx⟩ := hg
    obtain ⟨its, rv, tup, _⟩ := I.tuple hq
    have hl := rv.length
    obtain ⟨f0, f1, f2, f3, f4, f5⟩ := hf it (by simp)
    have D : Draws X.prog X.w X.A.in1 it [it, a] i (fun _ _ => False) (fun j h => j = i ∧ h.IsTupleIter it a i ∧ h.IsTuple a its.toArray) := {
      live := fun j h z => let ⟨_, ⟨o, q, _⟩, _⟩ := z; ⟨o, q⟩
      frame := fun j h h' z kp => ⟨z.1, z.2.1.at fun o q => kp it (by simp) o q, z.2.2.at fun o q => kp a (by simp) o q⟩
      item := fun j s' Q E' hj z => absurd z.1 (Nat.ne_of_lt hj)
      done := fun s' Q E' z fin => wpAny_nextOf_tuple_end (I.ok.hd hc) z.2.1 z.2.2 (by simp; omega) fin }
    exact wpAny_pyNext_enum_endD D he ⟨rfl, hit, tup⟩ fun h' eb => ⟨rfl, I.turned (t' := s.toks) (fun b o hb q => eb b o hb q) f0 f1 f3 f4 f5⟩
  self := fun A i s Q E st h => let ⟨⟨_, he⟩, _⟩ := st; wpAny_pyIter_enum he h
def iEnT (K : PySem.W.Frag) (ta : TA) : TI := fun σ H R => ta σ H fun vs H1 => ∃ a xs, vs = [.ref a] ∧ SqT K H1 a xs ∧ R (ItN K a) H1
theorem pi_enumT {X : Cx} {e : Expr} {ta : TA} {p pos tpos : Pos} {elts : List Expr} {kk : Nat} (hg : Gl X "enumerate") (hm : X.mg "enumerate" = none) (ha : PA X [e] ta) (hs : starEach [e] X.env = [(false, eval e X.env)] := by rfl) :
    PI X (.Tuple elts kk tpos) (.Call (.Name "enumerate" p) [e] [] pos) (iEnT X.K ta) := by
  refine ⟨fun pins s σ H R I want => Call_ (ld_blt I hg hm boot_enumerate (PyProof.Rows.callWith_type1 (thn (ha.run pos pins s σ H _ I want) fun us s1 got => ?_) hs rfl))⟩
  obtain ⟨vs, H1, J, rel, a, xs, ex, hq, q⟩ := got
  subst ex
  obtain ⟨u, eu, r1⟩ := vals1 rel
  subst eu
  obtain rfl : u = Value.ref a := r1
  obtain ⟨its, rv, tup, _⟩ := J.tuple hq
  have la : a < s1.heap.objs.size := let ⟨_, q, _⟩ := tup; Heap.lt_size q
  refine call_enumT (items := its.toArray) tup fun h' he hit kp => wpAny_pyIter_enum he ?_
  have J2 : Inv X pins σ H1 { s1 with heap := h' } := J.kept (t' := s1.toks) kp
  refine ⟨s1.heap.objs.size + 1, [s1.heap.objs.size + 1, s1.heap.objs.size], _, _, H1, rfl, J2, turn_enumT a (s1.heap.objs.size + 1) s1.heap.objs.size (Nat.succ_ne_self _) (Nat.ne_of_lt la) (Nat.ne_of_gt (Nat.lt_succ_of_lt la)), ⟨⟨.none, he⟩, hit⟩, fun b hb => ?_, q⟩
  have lb : s1.heap.objs.size ≤ b := by
    rcases List.mem_cons.mp hb with rfl | hb
    · exact Nat.le_succ _
    · rw [List.mem_singleton.mp hb]
      exact Nat.le_refl _
  exact J.fpOk lb (J.hok.fresh lb)
theorem walk_enumT {K : PySem.W.Frag} {a : Addr} {xs : List V} : Walk (ItN K a) xs.length (fun H => SqT K H a xs) (YPair (fun i => some (.int (i : Nat))) (fun i => xs[i]?)) :=
  ⟨fun i H hi h => ⟨xs, xs[i], h, List.getElem?_eq_getElem hi⟩, fun H h => ⟨xs, h, Nat.le_refl _⟩, fun i H x H' hi h y => by
    obtain ⟨T, z, e1, e2, e3, e4⟩ := y
    exact ⟨T, _, z, e1, e2, e3, rfl, e4 xs h⟩⟩
/-! ### ties, walks, parts: the mathematics -/
def Adj (ts : List Tie) (a b : Int) (foe : Bool) : Prop := ∃ t ∈ ts, t.foe = foe ∧ ((t.one = a ∧ t.other = b) ∨ (t.one = b ∧ t.other = a))
theorem Adj.symm {ts : List Tie} {a b : Int} {k : Bool} (h : Adj ts a b k) : Adj ts b a k := by
  obtain ⟨t, ht, e, h⟩ := h
  exact ⟨t, ht, e, h.symm⟩
/-- a walk with so many foes, even or odd -/
inductive RP (ts : List Tie) (a : Int) : Int → Bool → Prop
  | nil : RP ts a a false
  | step {b c : Int} {p k : Bool} : RP ts a b p → Adj ts b c k → RP ts a c (p ^^ k)
def Rch (ts : List Tie) (a b : Int) : Prop := ∃ p, RP ts a b p
theorem RP.trans {ts : List Tie} {a b c : Int} {p q : Bool} (h : RP ts a b p) (g : RP ts b c q) : RP ts a c (p ^^ q) := by
  induction g with
  | nil =>
    rw [Bool.xor_false]
    exact h
  | step _ k ih =>
    rw [← Bool.xor_assoc]
    exact ih.step k
theorem RP.one {ts : List Tie} {a b : Int} {k : Bool} (h : Adj ts a b k) : RP ts a b k := by
  have q := RP.nil.step h
  rw [Bool.false_xor] at q
  exact q
theorem RP.symm {ts : List Tie} {a b : Int} {p : Bool} (h : RP ts a b p) : RP ts b a p := by
  induction h with
  | nil => exact .nil
  | step _ k ih =>
    have q := (RP.one k.symm).trans ih
    rw [Bool.xor_comm] at q
    exact q
theorem Rch.refl {ts : List Tie} {a : Int} : Rch ts a a := ⟨_, .nil⟩
theorem Rch.symm {ts : List Tie} {a b : Int} (h : Rch ts a b) : Rch ts b a := by
  obtain ⟨p, h⟩ := h
  exact ⟨p, h.symm⟩
theorem Rch.trans {ts : List Tie} {a b c : Int} (h : Rch ts a b) (g : Rch ts b c) : Rch ts a c := by
  obtain ⟨p, h⟩ := h
  obtain ⟨q, g⟩ := g
  exact ⟨_, h.trans g⟩
theorem Rch.adj {ts : List Tie} {a b : Int} {k : Bool} (h : Adj ts a b k) : Rch ts a b := ⟨_, RP.one h⟩
theorem Rch.ind {ts : List Tie} {a b : Int} (C : Int → Prop) (h : Rch ts a b) (h0 : C a) (hs : ∀ x y k, C x → Adj ts x y k → C y) : C b := by
  obtain ⟨p, h⟩ := h
  induction h with
  | nil => exact h0
  | step _ k ih => exact hs _ _ _ ih k
theorem Adj.rng {ts : List Tie} {n a b : Int} {k : Bool} (ok : ∀ t ∈ ts, TieOk n t) (h : Adj ts a b k) : 0 ≤ b ∧ b < n := by
  obtain ⟨t, ht, _, h⟩ := h
  obtain ⟨h1, h2, h3, h4, _⟩ := ok t ht
  rcases h with ⟨e1, e2⟩ | ⟨e1, e2⟩
  · omega
  · omega
theorem Rch.rng {ts : List Tie} {n a b : Int} (ok : ∀ t ∈ ts, TieOk n t) (ha : 0 ≤ a ∧ a < n) (h : Rch ts a b) : 0 ≤ b ∧ b < n := h.ind (fun x => 0 ≤ x ∧ x < n) ha fun _ _ _ _ k => k.rng ok
def leader (ts : List Tie) (s : Int) : Prop := ∀ q, Rch ts s q → s ≤ q
/-- rising lists of the same numbers are one -/
theorem rising_ext : ∀ {xs ys : List Int}, xs.Pairwise (· < ·) → ys.Pairwise (· < ·) → (∀ z, z ∈ xs ↔ z ∈ ys) → xs = ys
  | [], [], _, _, _ => rfl
  | [], y :: ys, _, _, h => by have := (h y).mpr (by simp); simp at this
  | x :: xs, [], _, _, h => by have := (h x).mp (by simp); simp at this
  | x :: xs, y :: ys, hx, hy, h => by
    rw [List.pairwise_cons] at hx hy
    have e : x = y := by
      have h1 := (h x).mp (by simp)
      have h2 := (h y).mpr (by simp)
      rcases List.mem_cons.mp h1 with e | e
      · exact e
      · rcases List.mem_cons.mp h2 with e' | e'
        · exact e'.symm
        · have := hx.1 y e'
          have := hy.1 x e
          omega
    subst e
    rw [rising_ext hx.2 hy.2 fun z => ?_]
    constructor
    · intro hz
      rcases List.mem_cons.mp ((h z).mp (List.mem_cons_of_mem _ hz)) with e | e
      · have := hx.1 z hz
        omega
      · exact e
    · intro hz
      rcases List.mem_cons.mp ((h z).mpr (List.mem_cons_of_mem _ hz)) with e | e
      · have := hy.1 z hz
        omega
      · exact e
/-- 0, 1, .., n - 1 -/
def rng (n : Nat) : List Int := (List.range n).map fun (i : Nat) => (i : Int)
theorem mem_rng {n : Nat} {z : Int} : z ∈ rng n ↔ 0 ≤ z ∧ z < n := by
  unfold rng
  rw [List.mem_map]
  constructor
  · rintro ⟨i, hi, rfl⟩
    have := List.mem_range.mp hi
    omega
  · rintro ⟨h1, h2⟩
    exact ⟨z.toNat, List.mem_range.mpr (by omega), by omega⟩
theorem rng_rising (n : Nat) : (rng n).Pairwise (· < ·) := by
  unfold rng
  rw [List.pairwise_map]
  exact List.pairwise_lt_range.imp (by intro a b h; omega)
theorem rng_succ (n : Nat) : rng (n + 1) = rng n ++ [(n : Int)] := by
  unfold rng
  rw [List.range_succ, List.map_append]
  rfl
theorem rng_length (n : Nat) : (rng n).length = n := by
  unfold rng
  rw [List.length_map, List.length_range]
open Classical in
/-- the part of s -/
noncomputable def partOf (ts : List Tie) (n : Nat) (s : Int) : List Int := (rng n).filter fun p => decide (Rch ts s p)
open Classical in
/-- the parts by their first places, below i -/
noncomputable def partsTo (ts : List Tie) (n i : Nat) : List (List Int) := ((rng i).filter fun s => decide (leader ts s)).map (partOf ts n)
open Classical in
theorem partsTo_succ (ts : List Tie) (n i : Nat) : partsTo ts n (i + 1) = partsTo ts n i ++ (if leader ts i then [partOf ts n i] else []) := by
  unfold partsTo
  rw [rng_succ, List.filter_append, List.map_append]
  congr 1
  by_cases h : leader ts (i : Int)
  · rw [if_pos h, List.filter_cons, if_pos (decide_eq_true h)]
    rfl
  · rw [if_neg h, List.filter_cons, if_neg (by simpa using h)]
    rfl
theorem part_rising (ts : List Tie) (n : Nat) (s : Int) : (partOf ts n s).Pairwise (· < ·) := (rng_rising n).filter _
theorem mem_part {ts : List Tie} {n : Nat} {s z : Int} : z ∈ partOf ts n s ↔ (0 ≤ z ∧ z < n) ∧ Rch ts s z := by
  unfold partOf
  rw [List.mem_filter, mem_rng]
  simp
/-! ### the least place that each comes to, gone over again and again -/
def relax (f : Int → Int) (t : Tie) : Int → Int := fun x => if x = t.one ∨ x = t.other then min (f t.one) (f t.other) else f x
def rounds (ts : List Tie) : Nat → Int → Int
  | 0 => fun x => x
  | r + 1 => ts.foldl relax (rounds ts r)
theorem relax_le (f : Int → Int) (t : Tie) (x : Int) : relax f t x ≤ f x := by
  unfold relax
  split
  · rename_i h
    rcases h with rfl | rfl <;> omega
  · exact Int.le_refl _
theorem fold_le : ∀ (l : List Tie) (f : Int → Int) (x : Int), l.foldl relax f x ≤ f x
  | [], _, _ => Int.le_refl _
  | t :: l, f, x => Int.le_trans (fold_le l (relax f t) x) (relax_le f t x)
theorem fold_tie : ∀ (l : List Tie) (f : Int → Int) (t : Tie), t ∈ l → l.foldl relax f t.one ≤ min (f t.one) (f t.other) ∧ l.foldl relax f t.other ≤ min (f t.one) (f t.other)
  | t' :: l, f, t, h => by
    rcases List.mem_cons.mp h with e | e
    · subst e
      have h1 := fold_le l (relax f t) t.one
      have h2 := fold_le l (relax f t) t.other
      have e1 : relax f t t.one = min (f t.one) (f t.other) := by unfold relax; rw [if_pos (.inl rfl)]
      have e2 : relax f t t.other = min (f t.one) (f t.other) := by unfold relax; rw [if_pos (.inr rfl)]
      rw [e1] at h1
      rw [e2] at h2
      exact ⟨h1, h2⟩
    · have ih := fold_tie l (relax f t') t e
      have h1 := relax_le f t' t.one
      have h2 := relax_le f t' t.other
      exact ⟨Int.le_trans ih.1 (by omega), Int.le_trans ih.2 (by omega)⟩
theorem fold_rch {ts : List Tie} : ∀ (l : List Tie) (f : Int → Int), (∀ t ∈ l, t ∈ ts) → (∀ x, Rch ts x (f x)) → ∀ x, Rch ts x (l.foldl relax f x)
  | [], _, _, h => h
  | t :: l, f, hl, h => fold_rch l (relax f t) (fun t' ht => hl t' (List.mem_cons_of_mem _ ht)) fun x => by
    have ad : Rch ts t.one t.other := Rch.adj (k := t.foe) ⟨t, hl t (by simp), rfl, .inl ⟨rfl, rfl⟩⟩
    unfold relax
    split
    · rename_i hx
      have key : Rch ts x t.one ∧ Rch ts x t.other := by
        rcases hx with e | e <;> subst e
        · exact ⟨Rch.refl, ad⟩
        · exact ⟨ad.symm, Rch.refl⟩
      rcases Int.le_total (f t.one) (f t.other) with q | q
      · rw [Int.min_eq_left q]
        exact key.1.trans (h _)
      · rw [Int.min_eq_right q]
        exact key.2.trans (h _)
    · exact h x
theorem rounds_rch (ts : List Tie) : ∀ (r : Nat) (x : Int), Rch ts x (rounds ts r x)
  | 0, _ => Rch.refl
  | r + 1, x => fold_rch ts _ (fun _ h => h) (rounds_rch ts r) x
theorem filter_lt {p q : Int → Bool} : ∀ {l : List Int}, (∀ x ∈ l, q x = true → p x = true) → (∃ x ∈ l, p x = true ∧ q x = false) → (l.filter q).length < (l.filter p).length
  | [], _, ⟨x, hx, _⟩ => by simp at hx
  | y :: l, hi, ⟨x, hx, hp, hq⟩ => by
    have mono : (l.filter q).length ≤ (l.filter p).length := by
      have hi' : ∀ x ∈ l, q x = true → p x = true := fun x h => hi x (List.mem_cons_of_mem _ h)
      clear hi hx hp hq
      induction l with
      | nil => exact Nat.le_refl _
      | cons z l ih =>
        have ih := ih fun x h => hi' x (List.mem_cons_of_mem _ h)
        rw [List.filter_cons, List.filter_cons]
        have hz := hi' z (by simp)
        cases h1 : q z <;> cases h2 : p z <;> simp_all <;> omega
    rw [List.filter_cons, List.filter_cons]
    rcases List.mem_cons.mp hx with e | e
    · subst e
      rw [hq, hp]
      simp
      omega
    · have ih := filter_lt (l := l) (fun x h => hi x (List.mem_cons_of_mem _ h)) ⟨x, e, hp, hq⟩
      have hy := hi y (by simp)
      cases h1 : q y <;> cases h2 : p y <;> simp_all <;> omega
open Classical in
/-- behind as many rounds as there are places each has its part's least place -/
theorem rounds_least {ts : List Tie} {n : Nat} (ok : ∀ t ∈ ts, TieOk n t) {m p : Int} (hm : leader ts m) (h0 : 0 ≤ m ∧ m < n) (hp : Rch ts m p) : rounds ts n p = m := by
  have ge : ∀ r x, Rch ts m x → m ≤ rounds ts r x := fun r x hx => hm _ (hx.trans (rounds_rch ts r x))
  have mono : ∀ r x, rounds ts (r + 1) x ≤ rounds ts r x := fun r x => fold_le ts _ x
  have atm : ∀ r, rounds ts r m = m := fun r => by
    have h1 := ge r m Rch.refl
    have h2 : rounds ts r m ≤ m := by
      induction r with
      | zero => exact Int.le_refl _
      | succ r ih => exact Int.le_trans (mono r m) (ih (ge r m Rch.refl))
    omega
  have cnt : ∀ r, ((rng n).filter fun x => decide (Rch ts m x ∧ rounds ts r x ≠ m)).length ≤ n - r := fun r => by
    induction r with
    | zero =>
      refine Nat.le_trans (List.length_filter_le _ _) ?_
      rw [rng_length]
      omega
    | succ r ih =>
      by_cases hex : ∃ x, Rch ts m x ∧ rounds ts r x ≠ m
      · obtain ⟨x, hx, hne⟩ := hex
        -- an edge over which it comes
        have edge : ∃ a b k, Rch ts m a ∧ rounds ts r a = m ∧ Adj ts a b k ∧ rounds ts r b ≠ m := by
          by_cases hn : ∃ a b k, Rch ts m a ∧ rounds ts r a = m ∧ Adj ts a b k ∧ rounds ts r b ≠ m
          · exact hn
          · exfalso
            refine hne (hx.ind (fun y => Rch ts m y ∧ rounds ts r y = m) ⟨Rch.refl, atm r⟩ fun a b k ha k' => ⟨ha.1.trans (Rch.adj k'), ?_⟩).2
            by_cases hb : rounds ts r b = m
            · exact hb
            · exact absurd ⟨a, b, k, ha.1, ha.2, k', hb⟩ hn
        obtain ⟨a, b, k, ha, ha2, hab, hb⟩ := edge
        have hmb : Rch ts m b := ha.trans (Rch.adj hab)
        have hb' : rounds ts (r + 1) b = m := by
          have h1 := ge (r + 1) b hmb
          obtain ⟨t, ht, _, h⟩ := hab
          have ft := fold_tie ts (rounds ts r) t ht
          have h2 : rounds ts (r + 1) b ≤ m := by
            rcases h with ⟨e1, e2⟩ | ⟨e1, e2⟩
            · have q := ft.2
              rw [e1, e2, ha2] at q
              exact Int.le_trans q (by omega)
            · have q := ft.1
              rw [e1, e2, ha2] at q
              exact Int.le_trans q (by omega)
          omega
        have lt := filter_lt (p := fun x => decide (Rch ts m x ∧ rounds ts r x ≠ m)) (q := fun x => decide (Rch ts m x ∧ rounds ts (r + 1) x ≠ m)) (l := rng n) (fun x _ hq => by
          have hq := of_decide_eq_true hq
          refine decide_eq_true ⟨hq.1, fun z => hq.2 ?_⟩
          have h1 := ge (r + 1) x hq.1
          have h2 := mono r x
          omega) ⟨b, mem_rng.mpr (hmb.rng ok h0), decide_eq_true ⟨hmb, hb⟩, decide_eq_false fun z => z.2 hb'⟩
        omega
      · have e : (rng n).filter (fun x => decide (Rch ts m x ∧ rounds ts (r + 1) x ≠ m)) = [] := by
          rw [List.filter_eq_nil_iff]
          intro x _ hq
          have hq := of_decide_eq_true hq
          refine hex ⟨x, hq.1, fun z => hq.2 ?_⟩
          have h1 := ge (r + 1) x hq.1
          have h2 := mono r x
          omega
        rw [e]
        exact Nat.zero_le _
  have c := cnt n
  rw [Nat.sub_self] at c
  have e := List.eq_nil_of_length_eq_zero (Nat.le_zero.mp c)
  by_cases hne : rounds ts n p = m
  · exact hne
  · rw [List.filter_eq_nil_iff] at e
    exact absurd (decide_eq_true ⟨hp, hne⟩) (e p (mem_rng.mpr (hp.rng ok h0)))
open Classical in
/-- each has a least place -/
theorem has_leader {ts : List Tie} {n : Nat} (ok : ∀ t ∈ ts, TieOk n t) {p : Int} (h0 : 0 ≤ p ∧ p < n) : ∃ m, leader ts m ∧ (0 ≤ m ∧ m < n) ∧ Rch ts m p := by
  have key : ∀ (k : Nat) (x : Int), x = k → Rch ts p x → ∃ m, leader ts m ∧ (0 ≤ m ∧ m < n) ∧ Rch ts m p := by
    intro k
    induction k using Nat.strongRecOn with
    | ind k ih =>
      intro x hx hr
      have hxr := hr.rng ok h0
      by_cases hl : leader ts x
      · exact ⟨x, hl, hxr, hr.symm⟩
      · have hl' : ∃ q, Rch ts x q ∧ q < x := by
          by_cases h : ∃ q, Rch ts x q ∧ q < x
          · exact h
          · exfalso
            refine hl fun q hq => ?_
            by_cases h' : q < x
            · exact absurd ⟨q, hq, h'⟩ h
            · omega
        obtain ⟨q, hq, hlt⟩ := hl'
        have hqr := hq.rng ok hxr
        exact ih q.toNat (by omega) q (by omega) (hr.trans hq)
  exact key p.toNat p (by omega) Rch.refl
/-! ### rows of numbers as data -/
def IntsV (H : Hp) (v : V) (xs : List Int) : Prop := ∃ b, v = .ref b ∧ NoD H b (xs.map V.int)
theorem IntsV.tk {H H' : Hp} (k : Tk H H') {v : V} {xs : List Int} (h : IntsV H v xs) : IntsV H' v xs := by
  obtain ⟨a, rfl, e⟩ := h
  exact ⟨a, rfl, e.tk k⟩
def intsD (xs : List Int) : PyData := .tuple (xs.map PyData.int)
section
variable {K : PySem.W.Frag} {H : Hp}
theorem dp_ints : ∀ (xs : List Int), DpAll K H (xs.map V.int) (xs.map PyData.int)
  | [] => .nil
  | x :: xs => .cons (.int x) (dp_ints xs)
theorem IntsV.dp {v : V} {xs : List Int} (h : IntsV H v xs) : Dp K H v (intsD xs) := by
  obtain ⟨b, rfl, e⟩ := h
  exact .tup e.sq (dp_ints xs)
end
theorem lay_ints : ∀ xs : List Int, PyData.canLayAll0 (xs.map PyData.int) = true
  | [] => by simp [PyData.canLayAll0]
  | x :: xs => by simp [PyData.canLayAll0, PyData.canLay0, lay_ints xs]
theorem deep_ints : ∀ xs : List Int, PyData.depthAll (xs.map PyData.int) = 0
  | [] => by simp [PyData.depthAll]
  | x :: xs => by simp [PyData.depthAll, PyData.depth, deep_ints xs]
theorem lay_intsD (xs : List Int) : (intsD xs).canLay0 = true := by
  unfold intsD
  rw [PyData.canLay0]
  exact lay_ints xs
theorem deep_intsD (xs : List Int) : (intsD xs).depth = 1 := by
  unfold intsD
  rw [PyData.depth, deep_ints]
theorem shaped_intsD (xs : List Int) : SeqAt.shaped (intsD xs) = true := by
  unfold SeqAt.shaped
  rw [lay_intsD, deep_intsD]
  rfl
theorem eqv_nil (xs : List Int) : PyData.eqv (intsD xs) (intsD []) = xs.isEmpty := by
  unfold intsD
  rw [PyData.eqv]
  cases xs <;> rfl
section
variable {P : Program} {w : World} {K : PySem.W.Frag} {mg : Str → Option Value} {base : Heap}
theorem Kp.free {d c l : Addr} {H H' : Hp} (k : Kp d c H H') (h : H' l = none) (h1 : l ≠ d) (h2 : l ≠ c) : H l = none := by
  cases e : H l with
  | none => rfl
  | some o =>
    rw [k l o h1 h2 e] at h
    cases h
theorem atI_of {xs : List V} {i : Int} {v : V} (h0 : 0 ≤ i) (e : xs[i.toNat]? = some v) : atI xs i = some v := by
  obtain ⟨j, rfl⟩ : ∃ j : Nat, i = (j : Int) := ⟨i.toNat, by omega⟩
  exact atI_nat (by rw [Int.toNat_natCast] at e; exact e)
theorem atI_ints {xs : List Int} {i : Int} (h0 : 0 ≤ i) (h1 : i < xs.length) : ∃ x ∈ xs, xs[i.toNat]? = some x ∧ atI (xs.map V.int) i = some (.int x) := by
  have h : i.toNat < xs.length := by omega
  exact ⟨xs[i.toNat], List.getElem_mem h, List.getElem?_eq_getElem h, atI_of h0 (by rw [List.getElem?_map, List.getElem?_eq_getElem h]; rfl)⟩
end
/-! ### ties that sides break -/
def sd (ss : List Int) (i : Int) : Int := ss.getD i.toNat 0
def tieAt (ts : List Tie) (i : Int) : Tie := ts.getD i.toNat ⟨0, 0, false⟩
def brk (ss : List Int) (t : Tie) : Bool := decide (sd ss t.one = sd ss t.other) == t.foe
def badTo (ss : List Int) (ts : List Tie) (k : Nat) : List Int := (rng k).filter fun i => brk ss (tieAt ts i)
def bad (ss : List Int) (ts : List Tie) : List Int := badTo ss ts ts.length
theorem badTo_succ (ss : List Int) (ts : List Tie) (k : Nat) : badTo ss ts (k + 1) = badTo ss ts k ++ (if brk ss (tieAt ts k) = true then [(k : Int)] else []) := by
  unfold badTo
  rw [rng_succ, List.filter_append, List.filter_cons]
  rfl
theorem badTo_len (ss : List Int) (ts : List Tie) (k : Nat) : (badTo ss ts k).length ≤ k := by
  unfold badTo
  have := List.length_filter_le (fun i => brk ss (tieAt ts i)) (rng k)
  rw [rng_length] at this
  exact this
theorem atI_sd {ss : List Int} {i : Int} (h0 : 0 ≤ i) (h1 : i < ss.length) : atI (ss.map V.int) i = some (.int (sd ss i)) := by
  have h : i.toNat < ss.length := by omega
  refine atI_of h0 ?_
  unfold sd
  rw [List.getElem?_map, List.getElem?_eq_getElem h, List.getD_eq_getElem?_getD, List.getElem?_eq_getElem h]
  rfl
theorem tieAt_of {ts : List Tie} {i : Nat} {t : Tie} (h : ts[i]? = some t) : tieAt ts i = t := by
  unfold tieAt
  rw [Int.toNat_natCast, List.getD_eq_getElem?_getD, h]
  rfl
theorem eq_brk (x y : Int) (f : Bool) : decide (V.bl (decide (V.int x = V.int y)) = V.bl (decide (V.str (kindS f) = V.str "foe"))) = (decide (x = y) == f) := by
  have e : decide (V.int x = V.int y) = decide (x = y) := by
    by_cases h : x = y
    · rw [decide_eq_true h, decide_eq_true (by rw [h])]
    · rw [decide_eq_false h, decide_eq_false (fun z => h (V.int.inj z))]
  rw [e]
  cases decide (x = y) <;> cases f <;> rfl
theorem ne_brk (x y : Int) (f : Bool) : (!decide (V.bl (!decide (V.int x = V.int y)) = V.bl (decide (V.str (kindS f) = V.str "foe")))) = (decide (x = y) == f) := by
  have e : decide (V.int x = V.int y) = decide (x = y) := by
    by_cases h : x = y
    · rw [decide_eq_true h, decide_eq_true (by rw [h])]
    · rw [decide_eq_false h, decide_eq_false (fun z => h (V.int.inj z))]
  rw [e]
  cases decide (x = y) <;> cases f <;> rfl
def spBreaks : Sp := fun vs H Q _ => ∃ (a b : Addr) (ss : List Int) (t : Tie), vs = [.ref a, .ref b] ∧ H a = some (.tup (ss.map V.int)) ∧ H b = some (.tup [.int t.one, .int t.other, .str (kindS t.foe)]) ∧ TieOk ss.length t ∧ Q (.bl (brk ss t)) H
def spBroken : Sp := fun vs H Q _ => ∃ (v : V) (a : Addr) (n : Int) (ts : List Tie) (ss : List Int), vs = [v, .ref a] ∧ WebAt H v n ts ∧ WebOk n ts ∧ H a = some (.tup (ss.map V.int)) ∧ (ss.length : Int) = n ∧
  ∀ r H', Same H H' → H' r = some (.tup ((bad ss ts).map V.int)) → Q (.ref r) H'
/-! ### sides put over -/
def Bin (ss : List Int) : Prop := ∀ x ∈ ss, x = 0 ∨ x = 1
theorem sd_get {ss : List Int} {i : Int} (h0 : 0 ≤ i) (h1 : i < ss.length) : ∃ h : i.toNat < ss.length, sd ss i = ss[i.toNat] := by
  have h : i.toNat < ss.length := by omega
  refine ⟨h, ?_⟩
  unfold sd
  rw [List.getD_eq_getElem?_getD, List.getElem?_eq_getElem h]
  rfl
theorem sd_bin {ss : List Int} (b : Bin ss) {i : Int} (h0 : 0 ≤ i) (h1 : i < ss.length) : sd ss i = 0 ∨ sd ss i = 1 := by
  obtain ⟨h, e⟩ := sd_get h0 h1
  rw [e]
  exact b _ (List.getElem_mem h)
def over (ss : List Int) : List Int := ss.map fun s => 1 - s
theorem sd_over {ss : List Int} {i : Int} (h0 : 0 ≤ i) (h1 : i < ss.length) : sd (over ss) i = 1 - sd ss i := by
  obtain ⟨h, e⟩ := sd_get h0 h1
  obtain ⟨h', e'⟩ := sd_get (ss := over ss) h0 (by unfold over; rw [List.length_map]; exact h1)
  rw [e, e']
  simp [over]
theorem brk_over {ss : List Int} {t : Tie} (ok : TieOk ss.length t) : brk (over ss) t = brk ss t := by
  unfold brk
  rw [sd_over ok.1 ok.2.1, sd_over ok.2.2.1 ok.2.2.2.1]
  congr 1
  rw [decide_eq_decide]
  omega
theorem tieAt_mem {ts : List Tie} {i : Int} (h : i ∈ rng ts.length) : tieAt ts i ∈ ts := by
  rw [mem_rng] at h
  have h' : i.toNat < ts.length := by omega
  unfold tieAt
  rw [List.getD_eq_getElem?_getD, List.getElem?_eq_getElem h']
  exact List.getElem_mem h'
theorem bad_over {ss : List Int} {ts : List Tie} (ok : ∀ t ∈ ts, TieOk ss.length t) : bad (over ss) ts = bad ss ts := by
  unfold bad badTo
  exact List.filter_congr fun i hi => brk_over (ok _ (tieAt_mem hi))
def moved (ss : List Int) (p : Int) : List Int := ss.set p.toNat (1 - sd ss p)
theorem moved_len (ss : List Int) (p : Int) : (moved ss p).length = ss.length := by unfold moved; rw [List.length_set]
theorem sd_moved {ss : List Int} {p i : Int} (p0 : 0 ≤ p) (p1 : p < ss.length) (h0 : 0 ≤ i) (h1 : i < ss.length) : sd (moved ss p) i = if i = p then 1 - sd ss p else sd ss i := by
  show (ss.set p.toNat (1 - sd ss p)).getD i.toNat 0 = _
  rw [List.getD_eq_getElem?_getD, List.getElem?_set]
  by_cases hp : i = p
  · subst hp
    rw [if_pos rfl, if_pos (by omega), if_pos rfl]
    rfl
  · rw [if_neg (by omega), if_neg hp]
    unfold sd
    rw [List.getD_eq_getElem?_getD]
theorem brk_moved {ss : List Int} (b : Bin ss) {t : Tie} {p : Int} (ok : TieOk ss.length t) (p0 : 0 ≤ p) (p1 : p < ss.length) : brk (moved ss p) t = (brk ss t != (t.one == p || t.other == p)) := by
  unfold brk
  rw [sd_moved p0 p1 ok.1 ok.2.1, sd_moved p0 p1 ok.2.2.1 ok.2.2.2.1]
  have b1 := sd_bin b ok.1 ok.2.1
  have b2 := sd_bin b ok.2.2.1 ok.2.2.2.1
  have ne := ok.2.2.2.2
  by_cases h1 : t.one = p
  · have h2 : t.other ≠ p := fun z => ne (h1.trans z.symm)
    rw [if_pos h1, if_neg h2, ← h1]
    have e1 : (t.one == t.one) = true := by simp
    rw [e1, Bool.true_or]
    rcases b1 with e | e <;> rcases b2 with e' | e' <;> rw [e, e'] <;> cases t.foe <;> rfl
  · rw [if_neg h1]
    have e1 : (t.one == p) = false := by simp [h1]
    rw [e1, Bool.false_or]
    by_cases h2 : t.other = p
    · rw [if_pos h2, ← h2]
      have e2 : (t.other == t.other) = true := by simp
      rw [e2]
      rcases b1 with e | e <;> rcases b2 with e' | e' <;> rw [e, e'] <;> cases t.foe <;> rfl
    · rw [if_neg h2]
      have e2 : (t.other == p) = false := by simp [h2]
      rw [e2, Bool.bne_false]
theorem moved_cut {ss : List Int} {p : Int} (p0 : 0 ≤ p) (p1 : p < ss.length) : cutV (ss.map V.int) none (some p) ++ [V.int (1 - sd ss p)] ++ cutV (ss.map V.int) (some (p + 1)) none = (moved ss p).map V.int := by
  obtain ⟨k, rfl⟩ : ∃ k : Nat, p = k := ⟨p.toNat, by omega⟩
  have hk : k < ss.length := by omega
  have e1 : cutV (ss.map V.int) none (some (k : Int)) = (ss.take k).map V.int := by
    unfold cutV
    rw [HT.sIx_none, HT.sIx_nat, List.length_map, Nat.min_eq_left (by omega), List.drop_zero, List.map_take]
    rfl
  have e2 : cutV (ss.map V.int) (some ((k : Int) + 1)) none = (ss.drop (k + 1)).map V.int := by
    unfold cutV
    rw [HT.sIx_none, show ((k : Int) + 1) = ((k + 1 : Nat) : Int) from by omega, HT.sIx_nat, List.length_map, Nat.min_eq_left (by omega), List.map_drop]
    exact List.take_of_length_le (by rw [List.length_drop, List.length_map]; omega)
  rw [e1, e2]
  unfold moved
  rw [Int.toNat_natCast, List.set_eq_take_append_cons_drop, if_pos hk]
  simp
theorem in_bad {ss : List Int} {ts : List Tie} {i : Nat} (hi : i < ts.length) : inV (.int (i : Int)) ((bad ss ts).map V.int) = brk ss (tieAt ts i) := by
  rw [Bool.eq_iff_iff]
  unfold inV
  rw [List.any_map, List.any_eq_true]
  unfold bad badTo
  constructor
  · rintro ⟨x, hx, e⟩
    have e' : (x == (i : Int)) = true := e
    rw [beq_iff_eq] at e'
    subst e'
    exact (List.mem_filter.mp hx).2
  · intro h
    exact ⟨i, List.mem_filter.mpr ⟨mem_rng.mpr (by omega), h⟩, by show ((i : Int) == (i : Int)) = true; simp⟩
theorem flat_ints (xs : List Int) : (xs.map V.int).all flatV = true := by
  rw [List.all_map, List.all_eq_true]
  intro x _
  rfl
theorem in_two (p x y : Int) : inV (.int p) [.int x, .int y] = (x == p || y == p) := by
  show ((x == p) || ((y == p) || false)) = _
  rw [Bool.or_false]
theorem ne_bl (a b : Bool) : (!decide (V.bl a = V.bl b)) = (a != b) := by cases a <;> cases b <;> rfl
/-! ### the fixed choice: the mathematics -/
def Cons (ss : List Int) (ts : List Tie) : Prop := ∀ t ∈ ts, brk ss t = false
def Odd (ts : List Tie) (n : Nat) : Prop := ∃ x : Int, (0 ≤ x ∧ x < n) ∧ RP ts x x true
def one? (ss : List Int) (i : Int) : Bool := decide (sd ss i = 1)
structure Told (ts : List Tie) (n : Nat) (ss : List Int) : Prop where
  len : ss.length = n
  bin : Bin ss
  each : ∀ i : Int, 0 ≤ i → i < n → ∃ m, leader ts m ∧ RP ts m i (one? ss i)
theorem brk_one {ss : List Int} (b : Bin ss) {t : Tie} (ok : TieOk ss.length t) : brk ss t = ((one? ss t.one ^^ one? ss t.other) ^^ t.foe) := by
  unfold brk one?
  have b1 := sd_bin b ok.1 ok.2.1
  have b2 := sd_bin b ok.2.2.1 ok.2.2.2.1
  rcases b1 with e | e <;> rcases b2 with e' | e' <;> rw [e, e'] <;> cases t.foe <;> decide
theorem cons_adj {ss : List Int} {ts : List Tie} (b : Bin ss) (ok : ∀ t ∈ ts, TieOk ss.length t) (h : Cons ss ts) {x y : Int} {k : Bool} (ad : Adj ts x y k) : (one? ss x ^^ one? ss y) = k := by
  obtain ⟨t, ht, rfl, h1⟩ := ad
  have e := h t ht
  rw [brk_one b (ok t ht)] at e
  rcases h1 with ⟨rfl, rfl⟩ | ⟨rfl, rfl⟩
  · revert e
    cases one? ss t.one <;> cases one? ss t.other <;> cases t.foe <;> simp
  · revert e
    cases one? ss t.one <;> cases one? ss t.other <;> cases t.foe <;> simp
theorem cons_walk {ss : List Int} {ts : List Tie} (b : Bin ss) (ok : ∀ t ∈ ts, TieOk ss.length t) (h : Cons ss ts) {x y : Int} {p : Bool} (r : RP ts x y p) : (one? ss x ^^ one? ss y) = p := by
  induction r with
  | nil => rw [Bool.xor_self]
  | step _ ad ih =>
    rw [← ih, ← cons_adj b ok h ad]
    rename_i u v p k _
    cases one? ss x <;> cases one? ss u <;> cases one? ss v <;> rfl
theorem cons_no_odd {ss : List Int} {ts : List Tie} {n : Nat} (b : Bin ss) (ok : ∀ t ∈ ts, TieOk ss.length t) (h : Cons ss ts) : ¬ Odd ts n := by
  rintro ⟨x, _, r⟩
  have := cons_walk b ok h r
  rw [Bool.xor_self] at this
  cases this
theorem leader_one {ts : List Tie} {m m' i : Int} (h : leader ts m) (h' : leader ts m') (r : Rch ts m i) (r' : Rch ts m' i) : m = m' := by
  have h1 := h m' (r.trans r'.symm)
  have h2 := h' m (r'.trans r.symm)
  omega
theorem told_unique {ts : List Tie} {n : Nat} {ss zs : List Int} (ok : ∀ t ∈ ts, TieOk n t) (h : Told ts n ss) (g : Told ts n zs) (c : Cons ss ts) : ss = zs := by
  refine List.ext_getElem? fun j => ?_
  by_cases hj : j < n
  · obtain ⟨m, l1, r1⟩ := h.each j (by omega) (by omega)
    obtain ⟨m', l2, r2⟩ := g.each j (by omega) (by omega)
    obtain rfl := leader_one l1 l2 ⟨_, r1⟩ ⟨_, r2⟩
    have w := cons_walk h.bin (by rw [h.len]; exact ok) c (r1.trans r2.symm)
    rw [Bool.xor_self] at w
    have e : one? ss j = one? zs j := by
      revert w
      cases one? ss (j : Int) <;> cases one? zs (j : Int) <;> simp
    have b1 := sd_bin h.bin (i := j) (by omega) (by rw [h.len]; omega)
    have b2 := sd_bin g.bin (i := j) (by omega) (by rw [g.len]; omega)
    obtain ⟨h1, e1⟩ := sd_get (ss := ss) (i := j) (by omega) (by rw [h.len]; omega)
    obtain ⟨h2, e2⟩ := sd_get (ss := zs) (i := j) (by omega) (by rw [g.len]; omega)
    have es : sd ss j = sd zs j := by
      unfold one? at e
      rcases b1 with x | x <;> rcases b2 with y | y <;> rw [x, y] at e ⊢ <;> revert e <;> decide
    rw [Int.toNat_natCast] at h1 h2
    rw [List.getElem?_eq_getElem h1, List.getElem?_eq_getElem h2]
    have : ss[j] = zs[j] := by
      have q1 : sd ss j = ss[j] := e1
      have q2 : sd zs j = zs[j] := e2
      rw [← q1, ← q2, es]
    rw [this]
  · rw [List.getElem?_eq_none (by rw [h.len]; omega), List.getElem?_eq_none (by rw [g.len]; omega)]
theorem told_odd {ts : List Tie} {n : Nat} {ss : List Int} (ok : ∀ t ∈ ts, TieOk n t) (h : Told ts n ss) {t : Tie} (ht : t ∈ ts) (hb : brk ss t = true) : Odd ts n := by
  have okt := ok t ht
  obtain ⟨m, l1, r1⟩ := h.each t.one okt.1 okt.2.1
  obtain ⟨m', l2, r2⟩ := h.each t.other okt.2.2.1 okt.2.2.2.1
  have ad : Adj ts t.one t.other t.foe := ⟨t, ht, rfl, .inl ⟨rfl, rfl⟩⟩
  obtain rfl := leader_one l1 l2 (Rch.trans ⟨_, r1⟩ (Rch.adj ad)) ⟨_, r2⟩
  have w := (r1.step ad).trans r2.symm
  refine ⟨m, Rch.rng ok ⟨okt.1, okt.2.1⟩ ⟨_, r1.symm⟩, ?_⟩
  have e : ((one? ss t.one ^^ t.foe) ^^ one? ss t.other) = true := by
    rw [brk_one h.bin (by rw [h.len]; exact okt)] at hb
    revert hb
    cases one? ss t.one <;> cases one? ss t.other <;> cases t.foe <;> simp
  rw [← e]
  exact w
theorem bad_nil {ss : List Int} {ts : List Tie} : bad ss ts = [] ↔ Cons ss ts := by
  unfold bad badTo Cons
  rw [List.filter_eq_nil_iff]
  constructor
  · intro h t ht
    obtain ⟨j, hj⟩ := List.getElem?_of_mem ht
    have hl := (List.getElem?_eq_some_iff.mp hj).1
    have := h j (mem_rng.mpr (by omega))
    rw [tieAt_of hj] at this
    simpa using this
  · intro h i hi
    rw [h _ (tieAt_mem hi)]
    decide
/-! ### groups by their least places, sides along the ties -/
theorem RP.mono {ts ts' : List Tie} (h : ∀ t ∈ ts, t ∈ ts') {a b : Int} {p : Bool} (r : RP ts a b p) : RP ts' a b p := by
  induction r with
  | nil => exact .nil
  | step _ ad ih =>
    obtain ⟨t, ht, e, q⟩ := ad
    exact ih.step ⟨t, h t ht, e, q⟩
def bit (x : Int) : Bool := decide (x = 1)
structure GS (ts : List Tie) (n : Nat) (g s : Int → Int) (good : Bool) : Prop where
  rp : ∀ i : Int, 0 ≤ i → i < n → RP ts (g i) i (bit (s i))
  le : ∀ i : Int, 0 ≤ i → i < n → 0 ≤ g i ∧ g i ≤ i
  bn : ∀ i : Int, 0 ≤ i → i < n → s i = 0 ∨ s i = 1
  eq : ∀ t ∈ ts, g t.one = g t.other
  yes : good = true → ∀ t ∈ ts, (bit (s t.one) ^^ bit (s t.other)) = t.foe
  no : good = false → Odd ts n
theorem GS.nil (n : Nat) : GS [] n (fun i => i) (fun _ => 0) true :=
  ⟨fun i _ _ => .nil, fun i h _ => ⟨h, Int.le_refl _⟩, fun _ _ _ => .inl rfl, fun t h => by simp at h, fun _ t h => by simp at h, fun h => by cases h⟩
theorem GS.same {ts : List Tie} {n : Nat} {g s : Int → Int} {good : Bool} (h : GS ts n g s good) {a b : Int} (r : Rch ts a b) : g a = g b :=
  r.ind (fun x => g a = g x) rfl fun x y k e ad => by
    obtain ⟨t, ht, _, q⟩ := ad
    have := h.eq t ht
    rcases q with ⟨rfl, rfl⟩ | ⟨rfl, rfl⟩
    · rw [e, this]
    · rw [e, this]
theorem GS.lead {ts : List Tie} {n : Nat} {g s : Int → Int} {good : Bool} (ok : ∀ t ∈ ts, TieOk n t) (h : GS ts n g s good) {i : Int} (h0 : 0 ≤ i) (h1 : i < n) : leader ts (g i) := fun q hq => by
  have e1 := h.same hq
  have e2 := h.same (⟨_, h.rp i h0 h1⟩ : Rch ts (g i) i)
  have r := hq.rng ok ⟨(h.le i h0 h1).1, by have := (h.le i h0 h1).2; omega⟩
  have := (h.le q r.1 r.2).2
  omega
def gNew (g : Int → Int) (low high : Int) : Int → Int := fun x => if low < high ∧ g x = high then low else g x
def sNew (g s : Int → Int) (low high turn : Int) : Int → Int := fun x => if low < high ∧ g x = high then (s x + turn) % 2 else s x
theorem bit_add {a b : Int} (ha : a = 0 ∨ a = 1) (hb : b = 0 ∨ b = 1) : bit ((a + b) % 2) = (bit a ^^ bit b) ∧ ((a + b) % 2 = 0 ∨ (a + b) % 2 = 1) := by
  rcases ha with rfl | rfl <;> rcases hb with rfl | rfl <;> decide
theorem GS.step {ts : List Tie} {n : Nat} {g s : Int → Int} {good : Bool} (h : GS ts n g s good) (okts : ∀ t ∈ ts, TieOk n t) {t : Tie} (ok : TieOk n t) {low high turn : Int} (hlow : low = min (g t.one) (g t.other)) (hhigh : high = max (g t.one) (g t.other)) (ht : turn = (s t.one + s t.other + (if t.foe = true then 1 else 0)) % 2) :
    GS (ts ++ [t]) n (gNew g low high) (sNew g s low high turn) (if low = high then good && decide (turn = 0) else good) := by
  have mono : ∀ x ∈ ts, x ∈ ts ++ [t] := fun x hx => List.mem_append_left _ hx
  have ad : Adj (ts ++ [t]) t.one t.other t.foe := ⟨t, by simp, rfl, .inl ⟨rfl, rfl⟩⟩
  have r1 := (h.rp t.one ok.1 ok.2.1).mono mono
  have r2 := (h.rp t.other ok.2.2.1 ok.2.2.2.1).mono mono
  have b1 := h.bn t.one ok.1 ok.2.1
  have b2 := h.bn t.other ok.2.2.1 ok.2.2.2.1
  have bt : bit turn = ((bit (s t.one) ^^ bit (s t.other)) ^^ t.foe) ∧ (turn = 0 ∨ turn = 1) := by
    rw [ht]
    rcases b1 with e | e <;> rcases b2 with e' | e' <;> rw [e, e'] <;> cases t.foe <;> decide
  have cross : low < high → RP (ts ++ [t]) low high (bit turn) := fun hl => by
    by_cases hc : g t.one ≤ g t.other
    · have e1 : low = g t.one := by omega
      have e2 : high = g t.other := by omega
      have w := (r1.step ad).trans r2.symm
      rw [e1, e2, bt.1]
      rw [show ((bit (s t.one) ^^ bit (s t.other)) ^^ t.foe) = ((bit (s t.one) ^^ t.foe) ^^ bit (s t.other)) from by cases bit (s t.one) <;> cases bit (s t.other) <;> cases t.foe <;> rfl]
      exact w
    · have e1 : low = g t.other := by omega
      have e2 : high = g t.one := by omega
      have w := (r2.step ad.symm).trans r1.symm
      rw [e1, e2, bt.1]
      rw [show ((bit (s t.one) ^^ bit (s t.other)) ^^ t.foe) = ((bit (s t.other) ^^ t.foe) ^^ bit (s t.one)) from by cases bit (s t.one) <;> cases bit (s t.other) <;> cases t.foe <;> rfl]
      exact w
  refine ⟨fun i h0 h1 => ?_, fun i h0 h1 => ?_, fun i h0 h1 => ?_, fun x hx => ?_, fun hg x hx => ?_, fun hg => ?_⟩
  · unfold gNew sNew
    by_cases hc : low < high ∧ g i = high
    · rw [if_pos hc, if_pos hc, (bit_add (h.bn i h0 h1) bt.2).1, Bool.xor_comm]
      have w := (h.rp i h0 h1).mono mono
      rw [hc.2] at w
      exact (cross hc.1).trans w
    · rw [if_neg hc, if_neg hc]
      exact (h.rp i h0 h1).mono mono
  · unfold gNew
    have l := h.le i h0 h1
    have l1 := h.le t.one ok.1 ok.2.1
    have l2 := h.le t.other ok.2.2.1 ok.2.2.2.1
    split
    · omega
    · exact l
  · unfold sNew
    split
    · exact (bit_add (h.bn i h0 h1) bt.2).2
    · exact h.bn i h0 h1
  · unfold gNew
    rcases List.mem_append.mp hx with hx | hx
    · rw [h.eq x hx]
    · rw [List.mem_singleton.mp hx]
      split <;> split <;> omega
  · rcases List.mem_append.mp hx with hx | hx
    · have hgood : good = true := by
        by_cases e : low = high
        · rw [if_pos e] at hg
          revert hg
          cases good <;> simp
        · rw [if_neg e] at hg
          exact hg
      have q := h.yes hgood x hx
      have e := h.eq x hx
      unfold sNew
      by_cases hc : low < high ∧ g x.one = high
      · have hc' : low < high ∧ g x.other = high := ⟨hc.1, by rw [← e]; exact hc.2⟩
        have okx := okts x hx
        rw [if_pos hc, if_pos hc', (bit_add (h.bn x.one okx.1 okx.2.1) bt.2).1, (bit_add (h.bn x.other okx.2.2.1 okx.2.2.2.1) bt.2).1, ← q]
        cases bit (s x.one) <;> cases bit (s x.other) <;> cases bit turn <;> rfl
      · have hc' : ¬ (low < high ∧ g x.other = high) := fun z => hc ⟨z.1, by rw [e]; exact z.2⟩
        rw [if_neg hc, if_neg hc']
        exact q
    · rw [List.mem_singleton.mp hx]
      unfold sNew
      by_cases e : low = high
      · rw [if_pos e] at hg
        have h0 : turn = 0 := by
          revert hg
          cases good <;> simp
        rw [if_neg (by omega), if_neg (by omega)]
        have z := bt.1
        rw [h0] at z
        revert z
        cases bit (s t.one) <;> cases bit (s t.other) <;> cases t.foe <;> decide
      · have hlt : low < high := by omega
        by_cases hc : g t.one ≤ g t.other
        · rw [if_neg (by omega), if_pos ⟨hlt, by omega⟩, (bit_add b2 bt.2).1, bt.1]
          cases bit (s t.one) <;> cases bit (s t.other) <;> cases t.foe <;> rfl
        · rw [if_pos ⟨hlt, by omega⟩, if_neg (by omega), (bit_add b1 bt.2).1, bt.1]
          cases bit (s t.one) <;> cases bit (s t.other) <;> cases t.foe <;> rfl
  · have old : good = false → Odd (ts ++ [t]) n := fun e => by
      obtain ⟨x, hx, r⟩ := h.no e
      exact ⟨x, hx, r.mono mono⟩
    by_cases e : low = high
    · rw [if_pos e] at hg
      cases hgood : good
      · exact old hgood
      · rw [hgood] at hg
        have h1 : turn = 1 := by
          rcases bt.2 with z | z
          · rw [z] at hg
            cases hg
          · exact z
        have eg : g t.one = g t.other := by omega
        have w := (r1.step ad).trans (eg ▸ r2).symm
        refine ⟨g t.one, ?_, ?_⟩
        · have := h.le t.one ok.1 ok.2.1
          have := ok.2.1
          omega
        · have z := bt.1
          rw [h1] at z
          rw [show ((bit (s t.one) ^^ t.foe) ^^ bit (s t.other)) = true from by
            revert z
            cases bit (s t.one) <;> cases bit (s t.other) <;> cases t.foe <;> decide] at w
          exact w
    · rw [if_neg e] at hg
      exact old hg
/-! ### d.update(e) -/
def rUpdate : V → List V → Hp → VK → Prop := fun x vs H Q => ∃ (a b : Addr) (kvs more : List (Key × V)), x = .ref a ∧ vs = [.ref b] ∧ H a = some (.dK kvs) ∧ H b = some (.dK more) ∧ a ≠ b ∧ kvs.length + more.length ≤ sizeLine ∧ Q .non (upd H a (.dK (mergeK kvs more)))
theorem mt_update {X : Cx} : MtR X "dict.update" rUpdate := by
  intro pins s σ H x vs v us Q I rx rv h
  obtain ⟨a, b, kvs, more, ex, ev, e1, e2, ne, hl, q⟩ := h
  subst ex
  subst ev
  obtain rfl : v = Value.ref a := rx
  obtain ⟨u, eu, r1⟩ := vals1 rv
  subst eu
  obtain rfl : u = Value.ref b := r1
  obtain ⟨z1, hd1, vs1, rel1, dd1⟩ := dk_of I.hok e1
  obtain ⟨z2, hd2, vs2, rel2, dd2⟩ := dk_of I.hok e2
  refine call_meetsIn PySem.F.slot_dict_update dd1.typeIs PySem.F.entry_dict_update (PySem.F.args_dict_update_2 _ _) (meets_dict_update (mixKind X.prog X.w) a b ne hd2) ⟨vs1, vs2, dd1, dd2, by rw [← rel1.length, ← rel2.length]; exact hl, fun h' dd' _ hs => ⟨.non, _, ?_, rfl, q⟩⟩
  have he : ∃ q, h'.get? a = some q := let ⟨q, _, _, hq, _⟩ := dd'; ⟨q, hq⟩
  exact d_write (t' := s.toks) I (by rw [e1]; exact True.intro) hs he (dk_new (Nat.le_trans (length_mergeK more kvs) hl) hd1 (rel2.merge rel1) dd')
/-! ### for each place its ties -/
theorem Same.mut {H H' : Hp} {a : Addr} {o : HO} (s : Same H H') (h : H a = none) : Same H (upd H' a o) := fun b x e => by
  rw [upd_ne (ne_of_none e h)]
  exact s b x e
abbrev Nb := Int × Bool
def NbV (H : Hp) (v : V) (p : Nb) : Prop := ∃ a, v = .ref a ∧ H a = some (.tup [.int p.1, .str (kindS p.2)])
theorem NbV.tk {H H' : Hp} (k : Tk H H') {v : V} {p : Nb} (h : NbV H v p) : NbV H' v p := by
  obtain ⟨a, rfl, e⟩ := h
  exact ⟨a, rfl, k _ _ e⟩
structure Around (H : Hp) (L : Addr) (As : List Addr) (N : Nat → List Nb) : Prop where
  at' : H L = some (.lst (As.map V.ref))
  nd : As.Nodup
  each : ∀ j a, As[j]? = some a → ∃ vs, H a = some (.lst vs) ∧ Paired (NbV H) vs (N j)
  out : L ∉ As
theorem Around.same {H H' : Hp} {L : Addr} {As : List Addr} {N : Nat → List Nb} (h : Around H L As N) (s : Same H H') : Around H' L As N :=
  ⟨s _ _ h.at', h.nd, fun j a e => by
    obtain ⟨vs, h1, h2⟩ := h.each j a e
    exact ⟨vs, s _ _ h1, Paired.mono (fun _ _ x => x.tk (Same.tk s)) h2⟩, h.out⟩
theorem Around.put {H : Hp} {L q : Addr} {As : List Addr} {N : Nat → List Nb} (h : Around H L As N) {j : Nat} {a : Addr} {vs : List V} {p : Nb} (ea : As[j]? = some a) (ev : H a = some (.lst vs)) (eq : NbV H (.ref q) p) :
    Around (upd H a (.lst (vs ++ [.ref q]))) L As (fun i => N i ++ if i = j then [p] else []) := by
  have k : Tk H (upd H a (.lst (vs ++ [.ref q]))) := tk_lst ev
  refine ⟨?_, h.nd, fun i b e => ?_, h.out⟩
  · have ne : L ≠ a := fun z => h.out (by rw [z]; exact List.mem_of_getElem? ea)
    rw [upd_ne ne]
    exact h.at'
  · obtain ⟨ws, h1, h2⟩ := h.each i b e
    by_cases hij : i = j
    · subst hij
      rw [ea] at e
      cases e
      rw [ev] at h1
      cases h1
      refine ⟨_, upd_same, ?_⟩
      rw [if_pos rfl]
      exact Paired.snoc (Paired.mono (fun _ _ x => x.tk k) h2) (eq.tk k)
    · have ne : b ≠ a := fun z => hij (by
        subst z
        exact (List.getElem?_inj (List.getElem?_eq_some_iff.mp e).1 h.nd).mp (e.trans ea.symm))
      refine ⟨ws, by rw [upd_ne ne]; exact h1, ?_⟩
      rw [if_neg hij, List.append_nil]
      exact Paired.mono (fun _ _ x => x.tk k) h2
def nb1 (t : Tie) (i : Int) : List Nb := (if i = t.one then [(t.other, t.foe)] else []) ++ (if i = t.other then [(t.one, t.foe)] else [])
def nbs (ts : List Tie) (i : Int) : List Nb := ts.flatMap fun t => nb1 t i
theorem nbs_snoc (ts : List Tie) (t : Tie) (i : Int) : nbs (ts ++ [t]) i = nbs ts i ++ nb1 t i := by
  unfold nbs
  rw [List.flatMap_append]
  simp
theorem nb1_len (t : Tie) (i : Int) : (nb1 t i).length ≤ 2 := by
  unfold nb1
  rw [List.length_append]
  split <;> split <;> simp
theorem nbs_len (ts : List Tie) (i : Int) : (nbs ts i).length ≤ 2 * ts.length := by
  induction ts with
  | nil => simp [nbs]
  | cons t ts ih =>
    have h := nb1_len t i
    unfold nbs at ih ⊢
    rw [List.flatMap_cons, List.length_append, List.length_cons]
    omega
theorem mem_nbs {ts : List Tie} {i : Int} {p : Nb} : p ∈ nbs ts i ↔ Adj ts i p.1 p.2 := by
  unfold nbs Adj nb1
  rw [List.mem_flatMap]
  constructor
  · rintro ⟨t, ht, h⟩
    refine ⟨t, ht, ?_⟩
    rcases List.mem_append.mp h with h | h
    · split at h
      · rename_i e
        rw [List.mem_singleton] at h
        subst h
        exact ⟨rfl, .inl ⟨e.symm, rfl⟩⟩
      · simp at h
    · split at h
      · rename_i e
        rw [List.mem_singleton] at h
        subst h
        exact ⟨rfl, .inr ⟨rfl, e.symm⟩⟩
      · simp at h
  · rintro ⟨t, ht, e, h⟩
    refine ⟨t, ht, List.mem_append.mpr ?_⟩
    obtain ⟨p1, p2⟩ := p
    simp only at e h
    rcases h with ⟨h1, h2⟩ | ⟨h1, h2⟩
    · left
      rw [if_pos h1.symm, List.mem_singleton, ← e, ← h2]
    · right
      rw [if_pos h2.symm, List.mem_singleton, ← e, ← h1]
/-- the list that neighbours tells -/
def AroundAt (H : Hp) (v : V) (n : Int) (ts : List Tie) : Prop := ∃ L As, v = .ref L ∧ (As.length : Int) = n ∧ Around H L As (fun j => nbs ts j)
theorem AroundAt.same {H H' : Hp} {v : V} {n : Int} {ts : List Tie} (h : AroundAt H v n ts) (s : Same H H') : AroundAt H' v n ts := by
  obtain ⟨L, As, rfl, h1, h2⟩ := h
  exact ⟨L, As, rfl, h1, h2.same s⟩
def spNeighbours : Sp := fun vs H Q _ => ∃ (v : V) (n : Int) (ts : List Tie), vs = [v] ∧ WebAt H v n ts ∧ WebOk n ts ∧
  ∀ v' H', AroundAt H' v' n ts → Same H H' → Q v' H'
section
variable {P : Program} {w : World} {K : PySem.W.Frag} {mg : Str → Option Value} {base : Heap}
theorem ok_neighbours {f : Addr} {fd : FuncData} (F : Fun K "neighbours" "neighbours" s_neighbours f fd) (M : Free mg) : FnOk P w K mg base CX0 1 f fd ["web"] spNeighbours := by
  refine F.ok sc_neighbours (fun vs H Q E h => ?_) (fun cdv A outer s H vs Q E hr h => ?_)
  · obtain ⟨v, n, ts, rfl, _⟩ := h
    rfl
  · obtain ⟨v, n, ts, rfl, ⟨a, b, us, rfl, ha, hb, hp⟩, ok, q⟩ := h
    refine ⟨_, (pss_cons (ps_asg (pv 0) (pg_tup rfl (pgs_cons (pg_name (i := 1) sc_neighbours.nd rfl (.inl rfl)) (pgs_cons (pg_name (i := 2) sc_neighbours.nd rfl (.inl rfl)) pgs_nil))))
      (pss_cons (ps_setLc (i := 3) (own := [("place", 4)]) (g := gName 4) (tt := tYes) rfl sc_neighbours.nd rfl rfl (sw_true rfl rfl rfl (by decide +kernel)) (pi_range1 (by rfl) M.range (pa_cons (pv 1) pa_nil)) (blkOk_by (N := N_neighbours) (sc := defScope s_neighbours) (own := [("place", 4)]) (by decide +kernel)) (fun _ _ _ _ _ => (pg_name (i := 4) sc_neighbours.nd rfl (.inl rfl))) (fun _ _ _ _ _ => pts_nil) (fun _ _ _ _ _ => (pe_lst pa_nil)))
      (pss_cons (ps_for PassesOwn.never rfl (pi_tup (pv 2)) (pg_tup rfl (pgs_cons (pg_name (i := 5) sc_neighbours.nd rfl (.inl rfl)) (pgs_cons (pg_name (i := 6) sc_neighbours.nd rfl (.inl rfl)) (pgs_cons (pg_name (i := 7) sc_neighbours.nd rfl (.inl rfl)) pgs_nil))))
        (pss_cons (ps_expr (pe_bm PySem.F.plainAttrs_list PySem.F.slot_list_append PySem.F.type_list_append mt_append (pe_ix ix_list (pv 3) (pv 5) (fun _ _ => rfl)) (pa_cons (pe_tup (pa_cons (pv 6) (pa_cons (pv 7) pa_nil))) pa_nil)))
        (pss_one (ps_expr (pe_bm PySem.F.plainAttrs_list PySem.F.slot_list_append PySem.F.type_list_append mt_append (pe_ix ix_list (pv 3) (pv 6) (fun _ _ => rfl)) (pa_cons (pe_tup (pa_cons (pv 5) (pa_cons (pv 7) pa_nil))) pa_nil))))))
      (pss_one (ps_ret (pv 3)))))), ?_⟩
    obtain ⟨k, rfl⟩ : ∃ k : Nat, n = k := ⟨n.toNat, by have := ok.lo; omega⟩
    have hk : k ≤ 40 := by have := ok.hi; omega
    -- many, ties = web
    refine ⟨.ref a, rfl, a, _, rfl, SqT.of ha, rfl, _, _, rfl, _, _, rfl, rfl, ?_⟩
    -- around
    refine ⟨.int k, rfl, k, rfl, by omega, by omega, fun L nL => ?_⟩
    rw [Int.toNat_natCast]
    refine lc_range (lo := 0) (n := k) (fun i H' => ∃ As : List Addr, As.length = i ∧ Around H' L As (fun _ => []) ∧ (∀ x ∈ As, H x = none) ∧ Same H H') ?_ ?_ ?_
    · exact ⟨[], rfl, ⟨upd_same, List.nodup_nil, fun j a e => by simp at e, by simp⟩, fun x hx => by simp at hx, same_new nL⟩
    · rintro i H1 hi ⟨As, hl, hA, hf, s1⟩
      refine ⟨rfl, Nat.zero_le _, fun p np => ?_⟩
      have hA2 := hA.same (same_new (o := .lst []) np)
      refine ⟨_, hA2.at', by rw [List.length_map]; exact small1000 (by omega), As ++ [p], by rw [List.length_append, hl]; rfl, ?_, fun x hx => ?_, Same.mut (s1.trans (same_new np)) nL⟩
      · have npA : p ∉ As := fun z => by
          obtain ⟨j, hj⟩ := List.getElem?_of_mem z
          obtain ⟨vs, h1, _⟩ := hA.each j p hj
          rw [np] at h1
          cases h1
        have npL : p ≠ L := fun z => by
          have h1 := hA.at'
          rw [← z, np] at h1
          cases h1
        refine ⟨by rw [upd_same, List.map_append]; rfl, ?_, fun j x e => ?_, ?_⟩
        · rw [List.nodup_append]
          refine ⟨hA.nd, by simp, fun x hx y hy z => ?_⟩
          rw [List.mem_singleton] at hy
          subst hy
          subst z
          exact npA hx
        · have hx : x ≠ L := fun z => by
            subst z
            rcases List.mem_append.mp (List.mem_of_getElem? e) with h | h
            · exact hA.out h
            · exact npL (List.mem_singleton.mp h).symm
          rcases List.mem_append.mp (List.mem_of_getElem? e) with h | h
          · obtain ⟨j2, e2⟩ := List.getElem?_of_mem h
            obtain ⟨vs, h1, h2⟩ := hA2.each j2 x e2
            cases h2
            exact ⟨[], by rw [upd_ne hx]; exact h1, .nil⟩
          · rw [List.mem_singleton] at h
            subst h
            exact ⟨[], by rw [upd_ne hx]; exact upd_same, .nil⟩
        · intro z
          rcases List.mem_append.mp z with h | h
          · exact hA.out h
          · exact npL (List.mem_singleton.mp h).symm
      · rcases List.mem_append.mp hx with h | h
        · exact hf x h
        · rw [List.mem_singleton.mp h]
          exact s1.free np
    rintro H0 ⟨As, hl, hA, hf, s0⟩
    have nLH : H L = none := nL
    -- the loop
    refine ⟨.ref b, rfl, b, rfl, ⟨_, SqT.of (s0 _ _ hb)⟩, ?_⟩
    have hlen : us.length = ts.length := Paired.length hp
    refine for_tup (xs := us) (fun i σ' H' => ∃ y5 y6 y7 : Option V, σ' = [some (.ref a), some (.int k), some (.ref b), some (.ref L), none, y5, y6, y7] ∧ Around H' L As (fun j => nbs (ts.take i) j) ∧ Same H H') ?_ ?_ ?_ ?_
    · exact ⟨none, none, none, rfl, hA, s0⟩
    · rintro i σ' H' _ ⟨y5, y6, y7, rfl, hA1, s1⟩
      exact SqT.of (s1 _ _ hb)
    · rintro i x σ' H1 ex ⟨y5, y6, y7, rfl, hA1, s1⟩
      obtain ⟨t, et, c, rfl, hc⟩ := Paired.at hp ex
      have okt := ok.ok t (List.mem_of_getElem? et)
      have hti := (List.getElem?_eq_some_iff.mp et).1
      have etk : ts.take (i + 1) = ts.take i ++ [t] := by
        rw [List.take_add_one, et]
        rfl
      have hts := ok.few
      refine ⟨c, _, rfl, SqT.of (s1 _ _ hc), rfl, _, _, rfl, _, _, rfl, _, _, rfl, rfl, ?_⟩
      obtain ⟨o1, o2, o3, o4, o5⟩ := okt
      -- the first
      obtain ⟨x1, e1, e1'⟩ := getI (xs := As) o1 (by omega)
      obtain ⟨vs1, g1, p1⟩ := hA1.each _ _ e1'
      have l1 := Paired.length p1
      have l1' := nbs_len (ts.take i) (t.one.toNat : Int)
      rw [List.length_take] at l1'
      refine ⟨.ref L, rfl, .int t.one, rfl, L, _, t.one, .ref x1, rfl, rfl, SqL.of hA1.at', ?_, .inl ⟨rfl, _, SqL.of g1⟩, .int t.other, rfl, .str (kindS t.foe), rfl, by show 2 ≤ sizeLine; decide, fun p np => ?_⟩
      · exact atI_of o1 (by rw [List.getElem?_map, e1']; rfl)
      have A2 := hA1.same (same_new (o := .tup [.int t.other, .str (kindS t.foe)]) np)
      refine ⟨x1, vs1, _, rfl, rfl, same_new np _ _ g1, small1000 (by omega), ?_⟩
      have A3 := A2.put e1' (same_new np _ _ g1) (q := p) (p := (t.other, t.foe)) ⟨p, rfl, upd_same⟩
      have s3 : Same H (upd (upd H1 p (.tup [.int t.other, .str (kindS t.foe)])) x1 (.lst (vs1 ++ [.ref p]))) := Same.mut (s1.trans (same_new np)) (hf _ (List.mem_of_getElem? e1'))
      generalize upd (upd H1 p (.tup [.int t.other, .str (kindS t.foe)])) x1 (.lst (vs1 ++ [.ref p])) = H3 at A3 s3
      -- the second
      obtain ⟨x2, e2, e2'⟩ := getI (xs := As) o3 (by omega)
      obtain ⟨vs2, g2, p2⟩ := A3.each _ _ e2'
      have l2 := Paired.length p2
      rw [List.length_append] at l2
      have l2' := nbs_len (ts.take i) (t.other.toNat : Int)
      rw [List.length_take] at l2'
      have l2'' : (if t.other.toNat = t.one.toNat then [(t.other, t.foe)] else []).length ≤ 1 := by split <;> simp
      refine ⟨.ref L, rfl, .int t.other, rfl, L, _, t.other, .ref x2, rfl, rfl, SqL.of A3.at', ?_, .inl ⟨rfl, _, SqL.of g2⟩, .int t.one, rfl, .str (kindS t.foe), rfl, by show 2 ≤ sizeLine; decide, fun p' np' => ?_⟩
      · exact atI_of o3 (by rw [List.getElem?_map, e2']; rfl)
      have A4 := A3.same (same_new (o := .tup [.int t.one, .str (kindS t.foe)]) np')
      refine ⟨x2, vs2, _, rfl, rfl, same_new np' _ _ g2, small1000 (by omega), ?_⟩
      have A5 := A4.put e2' (same_new np' _ _ g2) (q := p') (p := (t.one, t.foe)) ⟨p', rfl, upd_same⟩
      refine ⟨_, _, _, rfl, ?_, Same.mut (s3.trans (same_new np')) (hf _ (List.mem_of_getElem? e2'))⟩
      refine ⟨A5.at', A5.nd, fun j z ez => ?_, A5.out⟩
      obtain ⟨ws, w1, w2⟩ := A5.each j z ez
      refine ⟨ws, w1, ?_⟩
      rw [etk, nbs_snoc]
      have en : nb1 t j = (if j = t.one.toNat then [(t.other, t.foe)] else []) ++ (if j = t.other.toNat then [(t.one, t.foe)] else []) := by
        unfold nb1
        congr 1
        · by_cases h : j = t.one.toNat
          · rw [if_pos h, if_pos (by omega)]
          · rw [if_neg h, if_neg (by omega)]
        · by_cases h : j = t.other.toNat
          · rw [if_pos h, if_pos (by omega)]
          · rw [if_neg h, if_neg (by omega)]
      rw [en, ← List.append_assoc]
      exact w2
    · rintro σ' H1 ⟨y5, y6, y7, rfl, hA1, s1⟩
      rw [hlen, List.take_length] at hA1
      exact ⟨.ref L, rfl, q _ _ ⟨L, As, rfl, by rw [hl], hA1⟩ s1⟩
end
/-! ### the places that ties lead to -/
def sideI (b : Bool) : Int := if b then 1 else 0
def kvOf (ks : List Nb) : List (Key × V) := ks.map fun p => (Sum.inl p.1, V.int (sideI p.2))
theorem kvOf_none {z : Int} : ∀ {ks : List Nb}, z ∉ ks.map (·.1) → valV (kvOf ks) (Sum.inl z) = none
  | [], _ => rfl
  | p :: ks, h => by
    rw [List.map_cons, List.mem_cons, not_or] at h
    have e := kvOf_none (ks := ks) h.2
    have h1 := h.1
    unfold kvOf at e ⊢
    rw [List.map_cons, valV_neg (fun z => h1 (Sum.inl.inj z).symm)]
    exact e
theorem kvOf_some {z : Int} {b : Bool} : ∀ {ks : List Nb}, (ks.map (·.1)).Nodup → (z, b) ∈ ks → valV (kvOf ks) (Sum.inl z) = some (.int (sideI b))
  | p :: ks, nd, h => by
    rw [List.map_cons, List.nodup_cons] at nd
    rcases List.mem_cons.mp h with e | e
    · subst e
      unfold kvOf
      rw [List.map_cons, valV_pos rfl]
    · have q := kvOf_some (ks := ks) nd.2 e
      have ne : p.1 ≠ z := fun y => nd.1 (by rw [y]; exact List.mem_map.mpr ⟨_, e, rfl⟩)
      unfold kvOf at q ⊢
      rw [List.map_cons, valV_neg (fun y => ne (Sum.inl.inj y))]
      exact q
theorem kvOf_put {ks : List Nb} {z : Int} {b : Bool} (h : z ∉ ks.map (·.1)) : putK (kvOf ks) (Sum.inl z) (.int (sideI b)) = kvOf (ks ++ [(z, b)]) := by
  unfold putK
  rw [if_neg]
  · unfold kvOf
    rw [List.map_append]
    rfl
  · intro g
    rw [List.any_eq_true] at g
    obtain ⟨kv, h1, h2⟩ := g
    unfold kvOf at h1
    rw [List.mem_map] at h1
    obtain ⟨p, hp, rfl⟩ := h1
    exact h (List.mem_map.mpr ⟨p, hp, Sum.inl.inj (of_decide_eq_true h2)⟩)
theorem kvOf_len (ks : List Nb) : (kvOf ks).length = ks.length := by unfold kvOf; rw [List.length_map]
theorem pigeon : ∀ (n : Nat) (xs : List Int), xs.Nodup → (∀ x ∈ xs, 0 ≤ x ∧ x < n) → xs.length ≤ n
  | 0, xs, _, h => by
    cases xs with
    | nil => simp
    | cons x r =>
      have := h x (by simp)
      omega
  | n + 1, xs, nd, h => by
    have q := pigeon n (xs.erase (n : Int)) (nd.erase _) fun x hx => by
      have h1 := h x (List.mem_of_mem_erase hx)
      have h2 : x ≠ n := (List.Nodup.mem_erase_iff nd).mp hx |>.1
      omega
    have l := List.length_erase (a := (n : Int)) (l := xs)
    split at l
    · omega
    · omega
structure SF (ts : List Tie) (s : Int) (ks : List Nb) (wl ex : List Int) : Prop where
  nd : (ks.map (·.1)).Nodup
  rp : ∀ p ∈ ks, RP ts s p.1 p.2
  st : s ∈ ks.map (·.1)
  sub : ∀ x ∈ wl, x ∈ ks.map (·.1)
  le : wl.length ≤ ks.length
  cl : ∀ x ∈ ks.map (·.1), x ∉ wl → x ∉ ex → ∀ y k, Adj ts x y k → y ∈ ks.map (·.1)
theorem SF.keys {ts : List Tie} {s : Int} {ks : List Nb} {wl ex : List Int} (h : SF ts s ks wl ex) {x : Int} (hx : x ∈ ks.map (·.1)) : ∃ b, (x, b) ∈ ks ∧ RP ts s x b := by
  obtain ⟨p, hp, rfl⟩ := List.mem_map.mp hx
  exact ⟨p.2, hp, h.rp p hp⟩
theorem SF.few {ts : List Tie} {n : Nat} {s : Int} {ks : List Nb} {wl ex : List Int} (h : SF ts s ks wl ex) (ok : ∀ t ∈ ts, TieOk n t) (hs : 0 ≤ s ∧ s < n) : ks.length ≤ n := by
  have q := pigeon n (ks.map (·.1)) h.nd fun x hx => by
    obtain ⟨b, _, hb⟩ := h.keys hx
    exact Rch.rng ok hs ⟨b, hb⟩
  rw [List.length_map] at q
  exact q
theorem SF.all {ts : List Tie} {s : Int} {ks : List Nb} (h : SF ts s ks [] []) (z : Int) : z ∈ ks.map (·.1) ↔ Rch ts s z := by
  constructor
  · intro hz
    obtain ⟨b, _, hb⟩ := h.keys hz
    exact ⟨b, hb⟩
  · intro hz
    exact hz.ind (fun x => x ∈ ks.map (·.1)) h.st fun x y k hx ad => h.cl x hx (by simp) (by simp) y k ad
theorem SF.pop {ts : List Tie} {s p : Int} {ks : List Nb} {wl : List Int} (h : SF ts s ks (wl ++ [p]) []) : SF ts s ks wl [p] :=
  ⟨h.nd, h.rp, h.st, fun x hx => h.sub x (List.mem_append_left _ hx), by have := h.le; rw [List.length_append] at this; omega, fun x hx h1 h2 => h.cl x hx (fun z => by
    rcases List.mem_append.mp z with z | z
    · exact h1 z
    · exact h2 z) (by simp)⟩
theorem SF.push {ts : List Tie} {s p y : Int} {b f : Bool} {ks : List Nb} {wl : List Int} (h : SF ts s ks wl [p]) (hp : RP ts s p b) (ad : Adj ts p y f) (hy : y ∉ ks.map (·.1)) : SF ts s (ks ++ [(y, b ^^ f)]) (wl ++ [y]) [p] := by
  have em : (ks ++ [(y, b ^^ f)]).map (·.1) = ks.map (·.1) ++ [y] := by rw [List.map_append]; rfl
  refine ⟨?_, fun q hq => ?_, ?_, fun x hx => ?_, ?_, fun x hx h1 h2 z k hz => ?_⟩
  · rw [em, List.nodup_append]
    refine ⟨h.nd, by simp, fun x hx z hz e => ?_⟩
    rw [List.mem_singleton] at hz
    subst hz
    subst e
    exact hy hx
  · rcases List.mem_append.mp hq with q1 | q1
    · exact h.rp q q1
    · rw [List.mem_singleton] at q1
      subst q1
      exact hp.step ad
  · rw [em]
    exact List.mem_append_left _ h.st
  · rw [em]
    rcases List.mem_append.mp hx with q1 | q1
    · exact List.mem_append_left _ (h.sub x q1)
    · exact List.mem_append_right _ q1
  · rw [List.length_append, List.length_append]
    have := h.le
    simp
    omega
  · rw [em] at hx ⊢
    rcases List.mem_append.mp hx with q1 | q1
    · exact List.mem_append_left _ (h.cl x q1 (fun q2 => h1 (List.mem_append_left _ q2)) h2 z k hz)
    · exact absurd (List.mem_append_right _ q1) h1
theorem SF.done {ts : List Tie} {s p : Int} {ks : List Nb} {wl : List Int} (h : SF ts s ks wl [p]) (hp : ∀ q ∈ nbs ts p, q.1 ∈ ks.map (·.1)) : SF ts s ks wl [] :=
  ⟨h.nd, h.rp, h.st, h.sub, h.le, fun x hx h1 _ y k ad => by
    by_cases e : x = p
    · subst e
      exact hp (y, k) (mem_nbs.mpr ad)
    · exact h.cl x hx h1 (fun z => e (List.mem_singleton.mp z)) y k ad⟩
theorem side_xor (b f : Bool) : (if decide (V.str (kindS f) = V.str "friend") = true then sideI b else 1 - sideI b) = sideI (b ^^ f) := by
  cases f
  · cases b <;> rfl
  · cases b <;> rfl
theorem room1 {k : Nat} {A : PySem.Around} (r : Room k A) : A.units + 1 < cLine := by have := r.un; omega
structure SidesOf (ts : List Tie) (s : Int) (ks : List Nb) : Prop where
  nd : (ks.map (·.1)).Nodup
  rp : ∀ p ∈ ks, RP ts s p.1 p.2
  all : ∀ z, z ∈ ks.map (·.1) ↔ Rch ts s z
def spSidesFrom : Sp := fun vs H Q _ => ∃ (v : V) (n : Int) (s : Int) (ts : List Tie), vs = [.int s, v] ∧ AroundAt H v n ts ∧ WebOk n ts ∧ 0 ≤ s ∧ s < n ∧
  ∀ d ks H', H d = none → H' d = some (.dK (kvOf ks)) → Same H H' → SidesOf ts s ks → Q (.ref d) H'
section
variable {P : Program} {w : World} {K : PySem.W.Frag} {mg : Str → Option Value} {base : Heap}
theorem ok_sides_from {f : Addr} {fd : FuncData} (F : Fun K "sides_from" "sides_from" s_sides_from f fd) (M : Free mg) : FnOk P w K mg base CX0 1 f fd ["start", "around"] spSidesFrom := by
  refine F.ok sc_sides_from (fun vs H Q E h => ?_) (fun cdv A outer sh H vs Q E hr h => ?_)
  · obtain ⟨v, n, s, ts, rfl, _⟩ := h
    rfl
  · obtain ⟨v, n, s, ts, rfl, ⟨L, As, rfl, hl, hA⟩, ok, hs0, hs1, q⟩ := h
    have hu := room1 hr
    refine ⟨_, (pss_cons (ps_set (i := 2) sc_sides_from.nd rfl (.inl rfl) (pe_disp (pps_cons (pv 0) pe_int pps_nil) (by rfl) (by rfl) (fun z => by cases z) (by decide)))
      (pss_cons (ps_set (i := 3) sc_sides_from.nd rfl (.inl rfl) (pe_lst (pa_cons (pv 0) pa_nil)))
      (pss_cons (ps_while PassesOwn.never (pt_truth (pv 3) (by intro _; rfl))
        (pss_cons (ps_set (i := 4) sc_sides_from.nd rfl (.inl rfl) (pe_bm0 PySem.F.plainAttrs_list PySem.F.slot_list_pop PySem.F.type_list_pop mt_pop (pv 3)))
        (pss_one (ps_for PassesOwn.never rfl (pi_list (pe_ix ix_list (pv 1) (pv 4) (fun _ _ => rfl))) (pg_tup rfl (pgs_cons (pg_name (i := 5) sc_sides_from.nd rfl (.inl rfl)) (pgs_cons (pg_name (i := 6) sc_sides_from.nd rfl (.inl rfl)) pgs_nil)))
          (pss_one (ps_if (pt_cmp (pc_dnotin hu (pv 5) (pv 2)))
            (Evl.pss_cut (ps_dput hu (pv 2) (pv 5) (pe_ifExp (pt_cmpR op_eq (pv 6) pe_str (nomark _)) (pe_dget hu (pv 2) (pv 4) (fun _ _ => rfl)) (pe_op op_sub pe_int (pe_dget hu (pv 2) (pv 4) (fun _ _ => rfl)))) rfl)
            (pss_one (ps_expr (pe_bm PySem.F.plainAttrs_list PySem.F.slot_list_append PySem.F.type_list_append mt_append (pv 3) (pa_cons (pv 5) pa_nil)))))
            pss_nil))))))
      (pss_one (ps_ret (pv 2)))))), ?_⟩
    obtain ⟨k, rfl⟩ : ∃ k : Nat, n = k := ⟨n.toNat, by have := ok.lo; omega⟩
    have hk : k ≤ 40 := by have := ok.hi; omega
    have hts := ok.few
    -- sides
    refine fun d nd => ⟨.int s, rfl, upd_same, [(Sum.inl s, .int 0)], rfl, (by show 1 ≤ 15; decide), ?_⟩
    have eH : upd (upd H d (.dK [])) d (.dK (mergeK [] [(Sum.inl s, .int 0)])) = upd H d (.dK (kvOf [(s, false)])) := by
      funext b
      by_cases hb : b = d
      · subst hb
        rw [upd_same, upd_same]
        rfl
      · rw [upd_ne hb, upd_ne hb, upd_ne hb]
    rw [eH]
    -- waiting
    refine ⟨.int s, rfl, by show 1 ≤ sizeLine; decide, fun W nW => ?_⟩
    have hdW : W ≠ d := (ne_of_none upd_same nW).symm
    have nWH : H W = none := by rw [upd_ne hdW] at nW; exact nW
    refine ⟨fun m σ' H' => ∃ (y4 y5 y6 : Option V) (ks : List Nb) (wl : List Int), σ' = [some (.int s), some (.ref L), some (.ref d), some (.ref W), y4, y5, y6] ∧ H' d = some (.dK (kvOf ks)) ∧ H' W = some (.lst (wl.map V.int)) ∧ Same H H' ∧ SF ts s ks wl [] ∧ m = 2 * (k - ks.length) + wl.length, ⟨_, none, none, none, [(s, false)], [s], rfl, ?_, upd_same, Same.mut (same_new nd) nWH, ?_, rfl⟩, ?_⟩
    · rw [upd_ne (Ne.symm hdW)]
      exact upd_same
    · exact ⟨by simp, fun p hp => by rw [List.mem_singleton.mp hp]; exact .nil, by simp, fun x hx => hx, Nat.le_refl _, fun x hx h1 => absurd hx h1⟩
    · rintro m σ' H1 ⟨y4, y5, y6, ks, wl, rfl, hd, hW, s1, sf, hm⟩
      refine ⟨.ref W, rfl, _, .inl ⟨_, SqL.of hW, rfl⟩, ?_⟩
      refine ite2 (fun hb => ?_) (fun hb => ?_)
      · -- a place
        cases hwl : wl with
        | nil => rw [hwl] at hb; cases hb
        | cons z zs =>
        obtain ⟨ys, p, e⟩ : ∃ (ys : List Int) (p : Int), z :: zs = ys ++ [p] := ⟨(z :: zs).dropLast, (z :: zs).getLast (by simp), (List.dropLast_concat_getLast (by simp)).symm⟩
        rw [hwl, e] at hW sf hm
        have hpk := sf.sub p (by simp)
        obtain ⟨b, hb1, hb2⟩ := sf.keys hpk
        have hpr := Rch.rng ok.ok ⟨hs0, hs1⟩ ⟨b, hb2⟩
        have sp := sf.pop
        have e3 : ((ys ++ [p]).map V.int).dropLast = ys.map V.int := by simp
        refine ⟨fun σ' H' => ∃ m', m' < m ∧ ∃ (y4 y5 y6 : Option V) (ks : List Nb) (wl : List Int), σ' = [some (.int s), some (.ref L), some (.ref d), some (.ref W), y4, y5, y6] ∧ H' d = some (.dK (kvOf ks)) ∧ H' W = some (.lst (wl.map V.int)) ∧ Same H H' ∧ SF ts s ks wl [] ∧ m' = 2 * (k - ks.length) + wl.length, fun _ _ h => h, ?_⟩
        refine ⟨.ref W, rfl, .inl ⟨rfl, _, SqL.of hW⟩, W, _, .int p, rfl, rfl, hW, by simp, ?_⟩
        rw [e3]
        have hd2 : (upd H1 W (.lst (ys.map V.int))) d = some (.dK (kvOf ks)) := by rw [upd_ne (Ne.symm hdW)]; exact hd
        have hW2 : (upd H1 W (.lst (ys.map V.int))) W = some (.lst (ys.map V.int)) := upd_same
        have s2 : Same H (upd H1 W (.lst (ys.map V.int))) := Same.mut s1 nWH
        generalize upd H1 W (.lst (ys.map V.int)) = H2 at hd2 hW2 s2
        have A2 := hA.same s2
        obtain ⟨x, ex, ex'⟩ := getI (xs := As) hpr.1 (by omega)
        obtain ⟨us, g, pr⟩ := A2.each _ _ ex'
        have epk : ((p.toNat : Nat) : Int) = p := by omega
        rw [epk] at pr
        refine ⟨.ref L, rfl, .int p, rfl, L, _, p, .ref x, rfl, rfl, SqL.of A2.at', atI_of hpr.1 (by rw [List.getElem?_map, ex']; rfl), x, rfl, ⟨_, SqL.of g⟩, ?_⟩
        have gH : H x = some (.lst us) := by
          obtain ⟨us', g', _⟩ := hA.each _ _ ex'
          rw [s2 _ _ g'] at g
          cases g
          exact g'
        refine for_list (xs := us) (fun i σ' H' => ∃ (y5 y6 : Option V) (ks : List Nb) (wl : List Int), σ' = [some (.int s), some (.ref L), some (.ref d), some (.ref W), some (.int p), y5, y6] ∧ H' d = some (.dK (kvOf ks)) ∧ H' W = some (.lst (wl.map V.int)) ∧ Same H H' ∧ SF ts s ks wl [p] ∧ (p, b) ∈ ks ∧ (∀ q ∈ (nbs ts p).take i, q.1 ∈ ks.map (·.1)) ∧ 2 * (k - ks.length) + wl.length < m) ?_ ?_ ?_ ?_
        · exact ⟨y5, y6, ks, ys, rfl, hd2, hW2, s2, sp, hb1, fun q hq => by simp at hq, by rw [hm, List.length_append]; simp⟩
        · rintro i σ' H' _ ⟨y5, y6, ks, wl, rfl, _, _, s3, _⟩
          exact SqL.of (s3 _ _ gH)
        · rintro i u σ' H3 eu ⟨y5, y6, ks, wl, rfl, hd3, hW3, s3, sf3, hb3, hdn, hlt⟩
          have A3 := hA.same s3
          obtain ⟨us', g', pr'⟩ := A3.each _ _ ex'
          rw [s3 _ _ gH] at g'
          cases g'
          rw [epk] at pr'
          obtain ⟨⟨y, fo⟩, ey, c, rfl, hc⟩ := Paired.at pr' eu
          have ady := mem_nbs.mp (List.mem_of_getElem? ey)
          have few := sf3.few ok.ok ⟨hs0, hs1⟩
          have etk : (nbs ts p).take (i + 1) = (nbs ts p).take i ++ [(y, fo)] := by
            rw [List.take_add_one, ey]
            rfl
          refine ⟨c, _, rfl, SqT.of hc, rfl, _, _, rfl, _, _, rfl, rfl, ?_⟩
          refine ⟨.int y, rfl, .ref d, rfl, d, _, rfl, DGet.k (k := Sum.inl y) hd3, _, rfl, ?_⟩
          by_cases hy : y ∈ ks.map (·.1)
          · obtain ⟨yb, yb1, _⟩ := sf3.keys hy
            rw [kvOf_some sf3.nd yb1]
            refine ⟨_, _, ks, wl, rfl, hd3, hW3, s3, sf3, hb3, fun q hq => ?_, hlt⟩
            rw [etk] at hq
            rcases List.mem_append.mp hq with h | h
            · exact hdn q h
            · rw [List.mem_singleton.mp h]
              exact hy
          · rw [kvOf_none hy]
            have sfp := sf3.push (sf3.rp _ hb3) ady hy
            have few2 := sfp.few ok.ok ⟨hs0, hs1⟩
            have lks : (kvOf ks).length < sizeLine := by rw [kvOf_len]; exact small1000 (by omega)
            have vp := kvOf_some sf3.nd hb3
            have ep := kvOf_put (b := b ^^ fo) hy
            refine ⟨fun σ' H' => σ' = [some (.int s), some (.ref L), some (.ref d), some (.ref W), some (.int p), some (.int y), some (.str (kindS fo))] ∧ H' = upd H3 d (.dK (kvOf (ks ++ [(y, b ^^ fo)]))), ?_, ?_⟩
            · refine ⟨.str (kindS fo), rfl, rfl, _, rfl, ?_⟩
              rw [← ep]
              cases fo
              · refine ⟨.ref d, rfl, .int p, rfl, d, _, rfl, (by rw [← vp]; exact DGet.k (k := Sum.inl p) hd3), .ref d, rfl, .int y, rfl, d, _, rfl, DPut.k (k := Sum.inl y) hd3 lks, rfl, ?_⟩
                rw [Bool.xor_false]
              · refine ⟨.ref d, rfl, .int p, rfl, d, _, rfl, (by rw [← vp]; exact DGet.k (k := Sum.inl p) hd3), 1, sideI b, rfl, rfl, .ref d, rfl, .int y, rfl, d, _, rfl, DPut.k (k := Sum.inl y) hd3 lks, rfl, ?_⟩
                cases b <;> rfl
            · rintro σ' H4 ⟨rfl, rfl⟩
              have hW4 : (upd H3 d (.dK (kvOf (ks ++ [(y, b ^^ fo)])))) W = some (.lst (wl.map V.int)) := by rw [upd_ne hdW]; exact hW3
              have lw := sf3.le
              refine ⟨.ref W, rfl, .inl ⟨rfl, _, SqL.of hW4⟩, .int y, rfl, W, _, _, rfl, rfl, hW4, by rw [List.length_map]; exact small1000 (by omega), ?_⟩
              refine ⟨_, _, ks ++ [(y, b ^^ fo)], wl ++ [y], rfl, ?_, by rw [upd_same, List.map_append]; rfl, Same.mut (Same.mut s3 nd) nWH, sfp, List.mem_append_left _ hb3, fun q hq => ?_, ?_⟩
              · rw [upd_ne (Ne.symm hdW)]
                exact upd_same
              · rw [List.map_append]
                rw [etk] at hq
                rcases List.mem_append.mp hq with h | h
                · exact List.mem_append_left _ (hdn q h)
                · rw [List.mem_singleton.mp h]
                  exact List.mem_append_right _ (by simp)
              · rw [List.length_append] at few2 ⊢
                rw [List.length_append]
                simp only [List.length_cons, List.length_nil] at few2 ⊢
                omega
        · rintro σ' H3 ⟨y5, y6, ks, wl, rfl, hd3, hW3, s3, sf3, hb3, hdn, hlt⟩
          rw [Paired.length pr, List.take_length] at hdn
          exact ⟨_, hlt, _, _, _, ks, wl, rfl, hd3, hW3, s3, sf3.done hdn, rfl⟩
      · -- none is left
        have hwl : wl = [] := by
          cases wl with
          | nil => rfl
          | cons z zs => exact absurd rfl hb
        subst hwl
        exact ⟨.ref d, rfl, q d ks H1 nd hd s1 ⟨sf.nd, sf.rp, sf.all⟩⟩
end
theorem rgV_ints (n : Nat) : rgV 0 n = (rng n).map V.int := by
  unfold rgV rng
  rw [List.map_map, show ((n : Int) - 0).toNat = n from by omega]
  refine List.map_congr_left fun i _ => ?_
  show V.int (0 + (i : Int)) = V.int i
  rw [Int.zero_add]
/-! ### the law: the least place that each comes to -/
def lf (f : Int → Int) (n : Nat) : List V := (rng n).map fun i => V.int (f i)
theorem lf_len (f : Int → Int) (n : Nat) : (lf f n).length = n := by unfold lf; rw [List.length_map, rng_length]
theorem lf_get? (f : Int → Int) {n j : Nat} (h : j < n) : (lf f n)[j]? = some (.int (f j)) := by
  unfold lf rng
  rw [List.map_map, List.getElem?_map, List.getElem?_range h]
  rfl
theorem lf_at (f : Int → Int) {n : Nat} {i : Int} (h0 : 0 ≤ i) (h1 : i < n) : atI (lf f n) i = some (.int (f i)) := by
  have e : ((i.toNat : Nat) : Int) = i := by omega
  refine atI_of h0 ?_
  rw [lf_get? f (by omega), e]
theorem lf_set (f : Int → Int) {n : Nat} {i y : Int} (h0 : 0 ≤ i) (h1 : i < n) : (lf f n).set i.toNat (.int y) = lf (fun x => if x = i then y else f x) n := by
  refine List.ext_getElem? fun j => ?_
  rw [List.getElem?_set]
  by_cases hj : j < n
  · by_cases e : i.toNat = j
    · rw [if_pos e, if_pos (by rw [lf_len]; omega), lf_get? _ hj, if_pos (by omega)]
    · rw [if_neg e, lf_get? _ hj, lf_get? _ hj, if_neg (by omega)]
  · have e : i.toNat ≠ j := by omega
    rw [if_neg e, List.getElem?_eq_none (by rw [lf_len]; omega), List.getElem?_eq_none (by rw [lf_len]; omega)]
theorem ixN_of {n : Nat} {i : Int} (h0 : 0 ≤ i) (h1 : i < n) : ixN n i = some i.toNat := by
  unfold ixN
  rw [if_pos (by omega), if_pos (by omega)]
/-! ### the parts -/
theorem mem_putK {k z : Key} {v : V} {kvs : List (Key × V)} : z ∈ (putK kvs k v).map (·.1) ↔ z ∈ kvs.map (·.1) ∨ z = k := by
  unfold putK
  split
  · rename_i h
    rw [List.any_eq_true] at h
    obtain ⟨kv, h1, h2⟩ := h
    have h3 := of_decide_eq_true h2
    rw [List.map_map]
    have e : (Prod.fst ∘ fun kv : Key × V => if kv.1 = k then (kv.1, v) else kv) = Prod.fst := by
      funext p
      show (if p.1 = k then (p.1, v) else p).1 = p.1
      split <;> rfl
    rw [show ((fun x : Key × V => x.1) ∘ fun kv : Key × V => if kv.1 = k then (kv.1, v) else kv) = Prod.fst from e]
    constructor
    · exact .inl
    · rintro (h | h)
      · exact h
      · rw [h, ← h3]
        exact List.mem_map.mpr ⟨kv, h1, rfl⟩
  · rw [List.map_append, List.mem_append]
    simp
theorem mem_mergeK {z : Key} : ∀ {more kvs : List (Key × V)}, z ∈ (mergeK kvs more).map (·.1) ↔ z ∈ kvs.map (·.1) ∨ z ∈ more.map (·.1)
  | [], kvs => by
    show z ∈ kvs.map (·.1) ↔ _
    simp
  | p :: r, kvs => by
    have q := mem_mergeK (z := z) (more := r) (kvs := putK kvs p.1 p.2)
    rw [mem_putK] at q
    show z ∈ (mergeK (putK kvs p.1 p.2) r).map (·.1) ↔ _
    rw [q, List.map_cons, List.mem_cons, or_assoc]
theorem valV_isSome {k : Key} : ∀ {kvs : List (Key × V)}, (valV kvs k).isSome = true ↔ k ∈ kvs.map (·.1)
  | [] => by simp [valV_nil]
  | p :: r => by
    by_cases h : p.1 = k
    · rw [valV_pos h, List.map_cons, List.mem_cons]
      simp [h]
    · rw [valV_neg h, List.map_cons, List.mem_cons, valV_isSome]
      constructor
      · exact .inr
      · rintro (e | e)
        · exact absurd e.symm h
        · exact e
theorem kvOf_keys (ks : List Nb) : (kvOf ks).map (·.1) = (ks.map (·.1)).map Sum.inl := by
  unfold kvOf
  rw [List.map_map, List.map_map]
  rfl
theorem lead_iff {ts : List Tie} {n : Nat} (ok : ∀ t ∈ ts, TieOk n t) {i : Int} (h0 : 0 ≤ i ∧ i < n) : leader ts i ↔ ¬ ∃ x, 0 ≤ x ∧ x < i ∧ Rch ts x i := by
  constructor
  · rintro h ⟨x, h1, h2, h3⟩
    have := h x h3.symm
    omega
  · intro h q hq
    rcases Int.lt_or_le q i with l | l
    · exact absurd ⟨q, (hq.rng ok h0).1, l, hq.symm⟩ h
    · exact l
def PartsAt (H : Hp) (v : V) (ps : List (List Int)) : Prop := ∃ a bs, v = .ref a ∧ H a = some (.tup bs) ∧ Paired (IntsV H) bs ps
theorem parts_tk {H H' : Hp} (k : Tk H H') {bs : List V} {ps : List (List Int)} (h : Paired (IntsV H) bs ps) : Paired (IntsV H') bs ps := Paired.mono (fun _ _ x => x.tk k) h
theorem partsTo_len (ts : List Tie) (n i : Nat) : (partsTo ts n i).length ≤ i := by
  induction i with
  | zero => simp [partsTo, rng]
  | succ i ih =>
    rw [partsTo_succ, List.length_append]
    split
    · simp
      omega
    · simp
      omega
def spPartsOf : Sp := fun vs H Q _ => ∃ (v : V) (n : Nat) (ts : List Tie), vs = [v] ∧ WebAt H v n ts ∧ WebOk n ts ∧
  ∀ v' H', Same H H' → PartsAt H' v' (partsTo ts n n) → Q v' H'
section
variable {P : Program} {w : World} {K : PySem.W.Frag} {mg : Str → Option Value} {base : Heap}
theorem ok_parts_of {f : Addr} {fd : FuncData} (F : Fun K "parts_of" "parts_of" s_parts_of f fd) (M : Free mg) (ms : mg "sorted" = none) (D1 : Df P w K mg base 1 "neighbours" ["web"] spNeighbours) (D2 : Df P w K mg base 1 "sides_from" ["start", "around"] spSidesFrom) : FnOk P w K mg base CX0 2 f fd ["web"] spPartsOf := by
  obtain ⟨f1, fd1, G1, g1, k1, b1⟩ := D1
  obtain ⟨f2, fd2, G2, g2, k2, b2⟩ := D2
  refine F.ok sc_parts_of (fun vs H Q E h => ?_) (fun cdv A outer sh H vs Q E hr h => ?_)
  · obtain ⟨v, n, ts, rfl, _⟩ := h
    rfl
  · obtain ⟨v, n, ts, rfl, hw, ok, q⟩ := h
    have hu := room1 hr
    have hk : n ≤ 40 := by have := ok.hi; omega
    refine ⟨_, (pss_cons (ps_set (i := 1) sc_parts_of.nd rfl (.inl rfl) (pe_call G1 hr (by rfl) g1 k1 b1 .nil pass0 (pa_cons (pv 0) pa_nil)))
      (pss_cons (ps_set (i := 2) sc_parts_of.nd rfl (.inl rfl) (pe_lst pa_nil))
      (pss_cons (ps_set (i := 3) sc_parts_of.nd rfl (.inl rfl) pe_dnewK)
      (pss_cons (ps_for PassesOwn.never rfl (pi_range1 (by rfl) M.range (pa_cons (pe_ix ix_tup (pv 0) pe_int (fun _ _ => rfl)) pa_nil)) (pg_name (i := 4) sc_parts_of.nd rfl (.inl rfl))
        (pss_one (ps_if (pt_cmp (pc_dnotin hu (pv 4) (pv 3)))
          (pss_cons (ps_set (i := 5) sc_parts_of.nd rfl (.inl rfl) (pe_call G2 hr (by rfl) g2 k2 b2 .nil pass0 (pa_cons (pv 4) (pa_cons (pv 1) pa_nil))))
          (pss_cons (ps_expr (pe_bm PySem.F.plainAttrs_dict PySem.F.slot_dict_update PySem.F.type_dict_update mt_update (pv 3) (pa_cons (pv 5) pa_nil)))
          (pss_one (ps_expr (pe_bm PySem.F.plainAttrs_list PySem.F.slot_list_append PySem.F.type_list_append mt_append (pv 2) (pa_cons (pe_callTy call_tuple_ofZ (by rfl) M.tuple (by decide +kernel) (pa_cons (pe_callB (call_sortedDI rfl) (by rfl) ms (by decide +kernel) (pa_cons (pv 5) pa_nil)) pa_nil)) pa_nil))))))
          pss_nil)))
      (pss_one (ps_ret (pe_callTy call_tuple_of (by rfl) M.tuple (by decide +kernel) (pa_cons (pv 2) pa_nil)))))))), ?_⟩
    -- around
    refine ⟨v, rfl, v, n, ts, rfl, hw, ok, fun u H1 hA s1 => ?_⟩
    -- parts, placed
    refine ⟨Nat.zero_le _, fun L nL pD nD => ?_⟩
    have hLD : pD ≠ L := (ne_of_none upd_same nD).symm
    have nDH1 : H1 pD = none := by rw [upd_ne hLD] at nD; exact nD
    have nLH : H L = none := s1.free nL
    have nDH : H pD = none := s1.free nDH1
    have sA : Same H1 (upd (upd H1 L (.lst [])) pD (.dK [])) := (same_new nL).trans (same_new nD)
    obtain ⟨a, b, vs, rfl, ha, hb, hp⟩ := hw
    refine ⟨.ref a, rfl, a, _, 0, .int n, rfl, rfl, SqT.of (sA _ _ (s1 _ _ ha)), rfl, n, rfl, by omega, by omega, ?_⟩
    rw [Int.toNat_natCast]
    refine for_range (lo := 0) (n := n) (fun i σ' H' => ∃ (y4 y5 : Option V) (kvs : List (Key × V)) (bs : List V), σ' = [some (.ref a), some u, some (.ref L), some (.ref pD), y4, y5] ∧ H' L = some (.lst bs) ∧ Paired (IntsV H') bs (partsTo ts n i) ∧ H' pD = some (.dK kvs) ∧ kvs.length ≤ 40 * i ∧
      (∀ z, z ∈ kvs.map (·.1) ↔ ∃ y, z = Sum.inl y ∧ ∃ x, 0 ≤ x ∧ x < (i : Int) ∧ Rch ts x y) ∧ Same H1 H') ?_ ?_ ?_
    · refine ⟨none, none, [], [], rfl, by rw [upd_ne (Ne.symm hLD)]; exact upd_same, ?_, upd_same, by simp, fun z => ?_, sA⟩
      · have e0 : partsTo ts n 0 = [] := by simp [partsTo, rng]
        rw [e0]
        exact .nil
      · constructor
        · intro h
          simp at h
        · rintro ⟨y, _, x, h1, h2, _⟩
          omega
    · rintro i σ' H2 hi ⟨y4, y5, kvs, bs, rfl, hL, hP, hD, hlen, hkeys, s2⟩
      rw [show (0 : Int) + (i : Nat) = i from by omega]
      have hir : 0 ≤ (i : Int) ∧ (i : Int) < n := by omega
      have lbs : bs.length ≤ i := by rw [Paired.length hP]; exact partsTo_len ts n i
      refine ⟨.int i, rfl, .ref pD, rfl, pD, _, rfl, DGet.k (k := Sum.inl (i : Int)) hD, _, rfl, ?_⟩
      have nx : ∀ y : Int, (∃ x, 0 ≤ x ∧ x < ((i + 1 : Nat) : Int) ∧ Rch ts x y) ↔ (∃ x, 0 ≤ x ∧ x < (i : Int) ∧ Rch ts x y) ∨ Rch ts i y := fun y => by
        constructor
        · rintro ⟨x, h1, h2, h3⟩
          by_cases e : x = i
          · subst e
            exact .inr h3
          · exact .inl ⟨x, h1, by omega, h3⟩
        · rintro (⟨x, h1, h2, h3⟩ | h)
          · exact ⟨x, h1, by omega, h3⟩
          · exact ⟨i, by omega, by omega, h⟩
      by_cases hin : (valV kvs (Sum.inl (i : Int))).isSome = true
      · rw [hin]
        obtain ⟨y, e, x, h1, h2, h3⟩ := (hkeys _).mp (valV_isSome.mp hin)
        cases e
        have nl : ¬ leader ts (i : Int) := fun z => (lead_iff ok.ok hir).mp z ⟨x, h1, h2, h3⟩
        refine ⟨_, _, kvs, bs, rfl, hL, ?_, hD, by omega, fun z => ?_, s2⟩
        · rw [partsTo_succ, if_neg nl, List.append_nil]
          exact hP
        · rw [hkeys]
          constructor
          · rintro ⟨y, e, h⟩
            exact ⟨y, e, (nx y).mpr (.inl h)⟩
          · rintro ⟨y, e, h⟩
            refine ⟨y, e, ?_⟩
            rcases (nx y).mp h with h | h
            · exact h
            · exact ⟨x, h1, h2, h3.trans h⟩
      · rw [Bool.not_eq_true] at hin
        rw [hin]
        have ld : leader ts (i : Int) := (lead_iff ok.ok hir).mpr fun ⟨x, h1, h2, h3⟩ => by
          have := valV_isSome.mpr ((hkeys (Sum.inl (i : Int))).mpr ⟨_, rfl, x, h1, h2, h3⟩)
          rw [hin] at this
          cases this
        refine ⟨.int i, rfl, u, rfl, u, n, i, ts, rfl, hA.same s2, ok, hir.1, hir.2, fun d ks H3 nd hd s3 so => ?_⟩
        have lks : ks.length ≤ n := by
          have q := pigeon n (ks.map (·.1)) so.nd fun x hx => Rch.rng ok.ok hir ((so.all x).mp hx)
          rw [List.length_map] at q
          exact q
        have hpd : pD ≠ d := ne_of_none hD nd
        have hLd : L ≠ d := ne_of_none hL nd
        -- update
        refine ⟨.ref pD, rfl, .inr (.inr (.inl ⟨rfl, .inl ⟨_, s3 _ _ hD⟩⟩)), .ref d, rfl, pD, d, kvs, kvOf ks, rfl, rfl, s3 _ _ hD, hd, hpd, (by rw [kvOf_len, sizeLine_eq]; omega), ?_⟩
        have hL4 : (upd H3 pD (.dK (mergeK kvs (kvOf ks)))) L = some (.lst bs) := by rw [upd_ne (Ne.symm hLD)]; exact s3 _ _ hL
        have hd4 : (upd H3 pD (.dK (mergeK kvs (kvOf ks)))) d = some (.dK (kvOf ks)) := by rw [upd_ne (Ne.symm hpd)]; exact hd
        have hD4 : (upd H3 pD (.dK (mergeK kvs (kvOf ks)))) pD = some (.dK (mergeK kvs (kvOf ks))) := upd_same
        have s4 : Same H1 (upd H3 pD (.dK (mergeK kvs (kvOf ks)))) := Same.mut (s2.trans s3) nDH1
        have t4 : Tk H2 (upd H3 pD (.dK (mergeK kvs (kvOf ks)))) := (Same.tk s3).trans (tk_dk (s3 _ _ hD))
        generalize upd H3 pD (.dK (mergeK kvs (kvOf ks))) = H4 at hL4 hd4 hD4 s4 t4
        -- append
        refine ⟨.ref L, rfl, .inl ⟨rfl, _, SqL.of hL4⟩, .ref d, rfl, d, _, ks.map (·.1), rfl, Rd.of hd4, kvOf_keys ks, by rw [List.length_map]; omega, fun ys p hperm hle np => ?_⟩
        have ey : ys = partOf ts n i := by
          refine rising_ext ?_ (part_rising ts n i) fun z => ?_
          · have nd2 : ys.Nodup := hperm.nodup_iff.mpr so.nd
            exact (hle.and nd2).imp fun {x y} h => by omega
          · rw [hperm.mem_iff, so.all, mem_part]
            exact ⟨fun h => ⟨h.rng ok.ok hir, h⟩, fun h => h.2⟩
        refine ⟨p, _, rfl, SqL.of upd_same, fun t o od nt => ?_⟩
        have s6 := (same_new (o := .lst (ys.map V.int)) np).trans (same_new (o := .frz o (.tup (ys.map V.int))) nt)
        have hL6 := s6 _ _ hL4
        refine ⟨L, bs, _, rfl, rfl, hL6, small1000 (by omega), ?_⟩
        have t6 : Tk H2 (upd (upd (upd H4 p (.lst (ys.map V.int))) t (.frz o (.tup (ys.map V.int)))) L (.lst (bs ++ [.ref t]))) := (t4.trans (Same.tk s6)).trans (tk_lst hL6)
        refine ⟨_, _, mergeK kvs (kvOf ks), bs ++ [.ref t], rfl, upd_same, ?_, ?_, ?_, fun z => ?_, Same.mut (s4.trans s6) nL⟩
        · rw [partsTo_succ, if_pos ld]
          refine Paired.snoc (parts_tk t6 hP) ⟨t, rfl, o, od, ?_⟩
          rw [← ey]
          exact (tk_lst hL6).frz _ _ _ upd_same
        · rw [upd_ne hLD]
          exact s6 _ _ hD4
        · have := length_mergeK (kvOf ks) kvs
          rw [kvOf_len] at this
          omega
        · rw [mem_mergeK, hkeys, kvOf_keys]
          constructor
          · rintro (⟨y, e, h⟩ | h)
            · exact ⟨y, e, (nx y).mpr (.inl h)⟩
            · obtain ⟨y, hy, rfl⟩ := List.mem_map.mp h
              exact ⟨y, rfl, (nx y).mpr (.inr ((so.all y).mp hy))⟩
          · rintro ⟨y, rfl, h⟩
            rcases (nx y).mp h with h | h
            · exact .inl ⟨y, rfl, h⟩
            · exact .inr (List.mem_map.mpr ⟨y, (so.all y).mpr h, rfl⟩)
    · rintro σ' H2 ⟨y4, y5, kvs, bs, rfl, hL, hP, hD, hlen, hkeys, s2⟩
      refine ⟨.ref L, rfl, L, bs, rfl, .inl ⟨SqL.of hL, fun t nt => ?_⟩⟩
      exact q _ _ ((s1.trans s2).trans (same_new nt)) ⟨t, bs, rfl, upd_same, parts_tk (Same.tk (same_new nt)) hP⟩
end
/-! ### len(set(t)) of a tuple of ints -/
theorem sub_len : ∀ {ks ns : List Int}, ks.Nodup → (∀ x ∈ ks, x ∈ ns) → ks.length ≤ ns.length
  | [], _, _, _ => Nat.zero_le _
  | k :: ks, ns, nd, h => by
    rw [List.nodup_cons] at nd
    have hk := h k (by simp)
    have q := sub_len (ks := ks) (ns := ns.erase k) nd.2 fun x hx => (List.mem_erase_of_ne (fun z => nd.1 (by rw [← z]; exact hx))).mpr (h x (List.mem_cons_of_mem _ hx))
    rw [List.length_erase_of_mem hk] at q
    have : 0 < ns.length := List.length_pos_of_mem hk
    rw [List.length_cons]
    omega
theorem twice : ∀ {ns : List Int}, ¬ ns.Nodup → ∃ x, x ∈ ns ∧ x ∈ ns.erase x
  | [], h => absurd List.nodup_nil h
  | y :: l, h => by
    by_cases hy : y ∈ l
    · exact ⟨y, by simp, by rw [List.erase_cons_head]; exact hy⟩
    · have hl : ¬ l.Nodup := fun z => h (List.nodup_cons.mpr ⟨hy, z⟩)
      obtain ⟨x, h1, h2⟩ := twice hl
      refine ⟨x, List.mem_cons_of_mem _ h1, ?_⟩
      have ne : y ≠ x := fun z => hy (by rw [z]; exact h1)
      rw [List.erase_cons_tail (by simpa using ne)]
      exact List.mem_cons_of_mem _ h2
theorem many_iff {ks ns : List Int} (nd : ks.Nodup) (h : ∀ x, x ∈ ns ↔ x ∈ ks) : ks.length = ns.length ↔ ns.Nodup := by
  constructor
  · intro e
    by_cases hn : ns.Nodup
    · exact hn
    · obtain ⟨x, h1, h2⟩ := twice hn
      have q := sub_len (ns := ns.erase x) nd fun y hy => by
        by_cases e2 : y = x
        · rw [e2]
          exact h2
        · exact (List.mem_erase_of_ne e2).mpr ((h y).mpr hy)
      rw [List.length_erase_of_mem h1] at q
      have : 0 < ns.length := List.length_pos_of_mem h1
      omega
  · intro hn
    have q1 := sub_len nd fun y hy => (h y).mpr hy
    have q2 := sub_len hn fun y hy => (h y).mp hy
    omega
def tLenSet (K : PySem.W.Frag) (ta : TE) : TE := fun σ H Q => ta σ H fun x H1 => ∃ (l : Addr) (ns : List Int), x = .ref l ∧ SqT K H1 l (ns.map V.int) ∧ ns.length ≤ 4000 ∧ ∀ c : Nat, (c = ns.length ↔ ns.Nodup) → Q (.int c) H1
theorem pe_lenSetT {X : Cx} {a : Expr} {ta : TE} {p p2 q pos : Pos} (hg : Gl X "len") (hm : X.mg "len" = none) (hg2 : Gl X "set") (hm2 : X.mg "set" = none) (ha : PE X a ta) (hc : X.calm = true := by rfl)
    (na : starEach [a] X.env = (false, eval a X.env) :: starEach [] X.env := by rfl) : PE X (.Call (.Name "len" p) [.Call (.Name "set" p2) [a] [] q] [] pos) (tLenSet X.K ta) := by
  refine ⟨fun pins s σ H Q I want => Call_ (ld_blt I hg hm PySem.boot_len (PyProof.Rows.callWith_builtin1 (PyProof.Rows.args_cons (Call_ (ld_blt I hg2 hm2 PyProof.Rows.boot_set (PyProof.Rows.callWith_type1 (PyProof.Rows.args_cons (thn (ha.run pins s σ H _ I want) fun v s1 got => PyProof.Rows.args_nil ?_) na) na rfl))) rfl) rfl rfl))⟩
  obtain ⟨x, H1, J, r1, l, ns, ex, hq, hl, q1⟩ := got
  subst ex
  obtain rfl : v = Value.ref l := r1
  obtain ⟨its, rel, tup, _⟩ := J.tuple hq
  refine call_set_tupI ns (J.ok.hd hc) tup (by simpa using rel.ints) (by unfold scanBound; omega) fun h' tk c hS hcl kp => PyProof.Rows.args_nil ?_
  obtain ⟨o, es, ep, t, ho, hex, hd, _, nd, mem, _, hf, hn, _⟩ := hS
  have J2 : Inv X pins σ H1 { s1 with heap := h', toks := tk } := J.kept kp
  have len : (es.toList.map keyOf).length = c := by rw [List.length_map, Array.length_toList, hn]
  have key : c = ns.length ↔ ns.Nodup := by
    rw [← len]
    refine many_iff nd fun y => ?_
    rw [← mem y, decide_eq_true_iff]
  exact call_len_set ho hex hd hf (by omega) ⟨.int c, H1, J2.tok _, ⟨_, by rw [hn]⟩, q1 c key⟩
/-! ### sorted(set(t)) of a tuple of ints, any number of them -/
section
open L2
variable {P : Program} {w : World} {A : PySem.Around} {E : Value → Shared → Prop} {s : Shared} {a : Addr}
theorem sorted_setN {S : Int → Bool} {n : Nat} {Q : Value → Shared → Prop} (R : SetR w s.heap a S n) (hh : A.handled = none) (h4 : n ≤ 4000)
    (hQ : ∀ s' p (out : Array Value) (c : Nat) (ns : List Int), (∀ b o, s.heap.get? b = some o → s'.heap.get? b = some o) → s'.gens = s.gens → s'.os = s.os → s.heap.objs.size ≤ p →
      s'.heap.get? p = some (seqObj "list" out c) → IntsAre out.toList ns → ns.Pairwise (· < ·) → (∀ k, k ∈ ns ↔ S k = true) → ns.length = n → Q (.ref p) s') :
    wpAny (model P w) A (call (.builtin "sorted") [.ref a]) Q E s := by
  obtain ⟨o, es, ep, t, ho, hex, hd, g, nd, hm, hb, hf, hn, hr, hl⟩ := R
  refine Calls.call_function_entry kind_sorted plain_sorted entry_sorted (args_sorted1 _) ?_
  unfold Builtin.«sorted»
  refine wpAny_bind (m := checkCount "sorted" 1 1 _) (wpAny_pure ?_)
  refine wpAny_bind (collect_set (A := A.in1) hh ⟨o, ho, hex.1, hd⟩ hf hb hr hl fun s1 vs k1 hz g1 o1 pm => ?_)
  have hvl : vs.length = n := by rw [pm.length_eq, List.length_map, Array.length_toList]; exact hn
  have hI : IntsAre vs (vs.map Builtin.Re.reRawOf) := ints_of vs fun v hv => by
    obtain ⟨e, he, q⟩ := List.mem_map.mp (pm.mem_iff.mp hv)
    obtain ⟨k, tk, h1, _⟩ := g e he
    exact ⟨k, tk, by rw [← q]; exact h1⟩
  have pk : (vs.map Builtin.Re.reRawOf).Perm (es.toList.map keyOf) := by
    have q := pm.map Builtin.Re.reRawOf
    rw [List.map_map] at q
    exact q
  refine wpAny_bind (wpAny_newList ?_ (by rw [hvl, sizeLine_eq]; omega))
  have hoL : (s1.heap.push (seqObj "list" vs.toArray 0)).get? s1.heap.objs.size = some (seqObj "list" vs.toArray 0) := Heap.get?_push_size _ rfl
  refine wpAny_bind (wpAny_holding (wpAny_call_entry slot_list_sort ⟨_, hoL, rfl⟩ entry_list_sort (SrtO.list_sort_ord SrtO.swo_int hoL (by rw [hvl, sizeLine_eq]; omega) (fun h2 => SrtO.ints_sortable hI h2) fun out h1 h2 => ⟨_, rfl, ?_⟩) (args_list_sort _)))
  obtain ⟨a1, a2, a3⟩ := SrtO.ints_out hI h1 h2
  obtain ⟨c, hc⟩ := sortedHeap_at (vs := vs) (out := out.toArray) hoL
  have pn : (out.map SrtO.iv).Perm (es.toList.map keyOf) := a2.trans pk
  refine wpAny_pure ⟨_, rfl, hQ _ s1.heap.objs.size out.toArray c (out.map SrtO.iv) (fun b u e => ?_) g1 o1 hz hc (by simpa using a1) (lt_of_le_nodup _ a3 (pn.nodup_iff.mpr nd)) (fun k => by rw [pn.mem_iff, ← hm k]) ?_⟩
  · have q := k1 b u e
    have hlt := Heap.lt_size q
    show (sortedHeap (s1.heap.push (seqObj "list" vs.toArray 0)) s1.heap.objs.size vs out.toArray).get? b = some u
    rw [sortedHeap_old (Nat.ne_of_lt hlt) (by rw [size_push']; exact Nat.lt_succ_of_lt hlt)]
    exact Heap.get?_push_of_some _ q
  · rw [pn.length_eq, List.length_map, Array.length_toList]; exact hn
end
def tSortSet (K : PySem.W.Frag) (ta : TE) : TE := fun σ H Q => ta σ H fun x H1 => ∃ (l : Addr) (ns : List Int), x = .ref l ∧ SqT K H1 l (ns.map V.int) ∧ ns.length ≤ 4000 ∧ ∀ (ks : List Int) (p : Addr), ks.Pairwise (· < ·) → (∀ k, k ∈ ks ↔ k ∈ ns) → H1 p = none → Q (.ref p) (upd H1 p (.lst (ks.map V.int)))
theorem pe_sortSetT {X : Cx} {a : Expr} {ta : TE} {p p2 q pos : Pos} (hg : Gl X "sorted") (hm : X.mg "sorted" = none) (hg2 : Gl X "set") (hm2 : X.mg "set" = none) (ha : PE X a ta) (hc : X.calm = true := by rfl)
    (na : starEach [a] X.env = (false, eval a X.env) :: starEach [] X.env := by rfl) : PE X (.Call (.Name "sorted" p) [.Call (.Name "set" p2) [a] [] q] [] pos) (tSortSet X.K ta) := by
  refine ⟨fun pins s σ H Q I want => Call_ (ld_blt I hg hm (show bootBuiltins "sorted" = some (.builtin "sorted") by decide +kernel) (PyProof.Rows.callWith_builtin1 (PyProof.Rows.args_cons (Call_ (ld_blt I hg2 hm2 PyProof.Rows.boot_set (PyProof.Rows.callWith_type1 (PyProof.Rows.args_cons (thn (ha.run pins s σ H _ I want) fun v s1 got => PyProof.Rows.args_nil ?_) na) na rfl))) rfl) rfl rfl))⟩
  obtain ⟨x, H1, J, r1, l, ns, ex, hq, hl, q1⟩ := got
  subst ex
  obtain rfl : v = Value.ref l := r1
  obtain ⟨its, rel, tup, _⟩ := J.tuple hq
  refine call_set_tupI ns (J.ok.hd hc) tup (by simpa using rel.ints) (by unfold scanBound; omega) fun h' tk c hS hcl kp => PyProof.Rows.args_nil ?_
  have J2 : Inv X pins σ H1 { s1 with heap := h', toks := tk } := J.kept kp
  have cl : c ≤ 4000 := by
    obtain ⟨o, es, ep, t, ho, hex, hd, _, nd, mem, _, hf, hn, _⟩ := hS
    have len : (es.toList.map keyOf).length = c := by rw [List.length_map, Array.length_toList, hn]
    have := sub_len nd (ns := ns) fun y hy => by
      have := (mem y).mpr hy
      exact of_decide_eq_true this
    omega
  obtain ⟨s2, es2⟩ : ∃ s2 : Shared, s2 = { s1 with heap := h', toks := tk } := ⟨_, rfl⟩
  rw [← es2] at J2
  show wpAny _ _ _ _ _ { s1 with heap := h', toks := tk }
  rw [← es2]
  refine sorted_setN (by rw [es2]; exact hS) (J2.ok.hd hc) cl fun s' p out c' ks k g o hp hg' hi hs hm' hl' => ?_
  have hlen : (ks.map V.int).length ≤ sizeLine := by rw [List.length_map, hl', sizeLine_eq]; omega
  have hn : H1 p = none := J2.hok.fresh hp
  have J3 : Inv X pins σ (upd H1 p (.lst (ks.map V.int))) { s2 with heap := s'.heap, gens := s'.gens, drawn := s'.drawn, toks := s'.toks } :=
    J2.call (ch := []) (Un.laid k hp hn) (J2.hok.laid k hp ⟨hlen, out.toList, c', vals_of_ints hi, hg'⟩) (by rw [g]; exact J2.bare) (fun _ z => nomatch z)
  have e : s' = { s2 with heap := s'.heap, gens := s'.gens, drawn := s'.drawn, toks := s'.toks } := by
    cases s'
    cases s2
    cases o
    rfl
  rw [e]
  exact ⟨.ref p, _, J3, rfl, q1 ks p hs (fun z => by rw [hm' z, decide_eq_true_iff]) hn⟩
/-- a list or a tuple, walked -/
def iSeq (K : PySem.W.Frag) (tl : TE) : TI := fun σ H R => tl σ H fun x H1 => ∃ a, x = .ref a ∧ (((∃ xs, SqL K H1 a xs) ∧ R (Itl K a) H1) ∨ ((∃ xs, SqT K H1 a xs) ∧ R (Itt K a) H1))
theorem pi_seq {X : Cx} {tg l : Expr} {tl : TE} (hl : PE X l tl) : PI X tg l (iSeq X.K tl) := by
  refine ⟨fun pins s σ H R I h => ?_⟩
  refine thn (hl.run pins s σ H _ I h) fun v s1 ⟨x, H1, I1, r1, q1⟩ => ?_
  obtain ⟨a, e, q1⟩ := q1
  subst e
  cases r1
  rcases q1 with ⟨⟨xs, hq⟩, q⟩ | ⟨⟨xs, hq⟩, q⟩
  · obtain ⟨its, rv, p, hz⟩ := I1.list hq
    refine wpAny_pyIter_list p.isList ?_
    refine ⟨s1.heap.objs.size, [s1.heap.objs.size], _, _, H1, rfl, I1.kept (t' := s1.toks) fun b o e => Heap.get?_push_of_some _ e, turn_list a _, ⟨_, Heap.get?_push_size _ rfl, rfl, rfl⟩, fun b hb => ?_, q⟩
    have e : b = s1.heap.objs.size := by simpa using hb
    subst e
    exact I1.fpOk (Nat.le_refl _) (I1.hok.fresh (Nat.le_refl _))
  · obtain ⟨its, rv, p, hz⟩ := I1.tuple hq
    refine wpAny_pyIter_tuple (show s1.heap.IsTuple a its.toArray from p) ?_
    refine ⟨s1.heap.objs.size, [s1.heap.objs.size], _, _, H1, rfl, I1.kept (t' := s1.toks) fun b o e => Heap.get?_push_of_some _ e, turn_tuple a _, ⟨_, Heap.get?_push_size _ rfl, rfl, rfl⟩, fun b hb => ?_, q⟩
    have e : b = s1.heap.objs.size := by simpa using hb
    subst e
    exact I1.fpOk (Nat.le_refl _) (I1.hok.fresh (Nat.le_refl _))
theorem atI_of' {xs : List V} {i : Int} {v : V} (h0 : 0 ≤ i) (e : xs[i.toNat]? = some v) : atI xs i = some v := by
  obtain ⟨j, rfl⟩ : ∃ j : Nat, i = (j : Int) := ⟨i.toNat, by omega⟩
  exact atI_nat (by rw [Int.toNat_natCast] at e; exact e)
/-! ### weights of ties -/
def gW (ws : List Int) (x : Int) : Int := ws.getD x.toNat 0
def spWeightOf : Sp := fun vs H Q _ => (∃ i, vs = [.non, .int i] ∧ Q (.int 1) H) ∨ ∃ a xs i v, vs = [.ref a, .int i] ∧ H a = some (.tup xs) ∧ atI xs i = some v ∧ Q v H
/-- whose weights: of None each 1 -/
def Wts (H : Hp) (v : V) (ns : List Int) (g : Int → Int) : Prop := (v = .non ∧ ∀ x ∈ ns, g x = 1) ∨ ∃ a ws, v = .ref a ∧ H a = some (.tup (ws.map V.int)) ∧ ∀ x ∈ ns, (0 ≤ x ∧ x < (ws.length : Int)) ∧ g x = gW ws x
theorem Wts.tk {H H' : Hp} (k : Tk H H') {v : V} {ns : List Int} {g : Int → Int} (h : Wts H v ns g) : Wts H' v ns g := by
  rcases h with h | ⟨a, ws, e, h1, h2⟩
  · exact .inl h
  · exact .inr ⟨a, ws, e, k _ _ h1, h2⟩
def sumW (g : Int → Int) (ns : List Int) : Int := (ns.map g).sum
theorem sumW_snoc (g : Int → Int) (ns : List Int) (x : Int) : sumW g (ns ++ [x]) = sumW g ns + g x := by
  unfold sumW
  rw [List.map_append, List.sum_append]
  simp
theorem sumW_one {g : Int → Int} : ∀ {ns : List Int}, (∀ x ∈ ns, g x = 1) → sumW g ns = ns.length
  | [], _ => rfl
  | n :: ns, h => by
    have ih := sumW_one (ns := ns) fun x hx => h x (List.mem_cons_of_mem _ hx)
    unfold sumW at ih ⊢
    rw [List.map_cons, List.sum_cons, ih, h n (by simp), List.length_cons]
    omega
theorem gW_at {ws : List Int} {x : Int} (h0 : 0 ≤ x) (h1 : x < (ws.length : Int)) : atI (ws.map V.int) x = some (.int (gW ws x)) := by
  have h : x.toNat < ws.length := by omega
  refine atI_of' h0 ?_
  unfold gW
  rw [List.getElem?_map, List.getD_eq_getElem?_getD, List.getElem?_eq_getElem h]
  rfl
def spMend (Ps : List Addr) : Sp := fun vs H Q _ => ∃ (v : V) (ta : Addr) (ns : List Int) (g : Int → Int), vs = [v, .ref ta] ∧ (H ta = some (.tup (ns.map V.int)) ∨ H ta = some (.lst (ns.map V.int))) ∧ Wts H v ns g ∧ Tabs Ps H ∧ ∀ H', Kt Ps H H' → Q (.int (sumW g ns)) H'
def spLong : Sp := fun vs H Q _ => ∃ (d c : Addr), vs = [.ref d] ∧ Deck H d c ∧ ∀ v H', 0 ≤ v → Deck H' d c → Kp d c H H' → Q (.int v) H'
section
variable {P : Program} {w : World} {K : PySem.W.Frag} {mg : Str → Option Value} {base : Heap}
theorem ok_weight_of {f : Addr} {fd : FuncData} (F : Fun K "weight_of" "weight_of" s_weight_of f fd) : FnOk P w K mg base CX0 1 f fd ["weights", "tie"] spWeightOf := by
  refine F.ok sc_weight_of (fun vs H Q E h => ?_) (fun cdv A outer s H vs Q E hr h => ?_)
  · rcases h with ⟨i, rfl, _⟩ | ⟨a, xs, i, v, rfl, _⟩ <;> rfl
  · refine ⟨_, (pss_cons (ps_if (pt_cmpR op_isN (pv 0) pe_non (nomark _))
        (pss_one (ps_ret pe_int))
        pss_nil)
      (pss_one (ps_ret (pe_ix ix_tup (pv 0) (pv 1) (fun _ _ => rfl))))), ?_⟩
    rcases h with ⟨i, rfl, q⟩ | ⟨a, xs, i, v, rfl, h1, h2, q⟩
    · exact ⟨.non, rfl, rfl, _, rfl, q⟩
    · exact ⟨.ref a, rfl, rfl, _, rfl, .ref a, rfl, .int i, rfl, a, xs, i, v, rfl, rfl, SqT.of h1, h2, q⟩
theorem ok_mend_weight {f c Pt : Addr} {fd : FuncData} {Ps : List Addr} (F : FunC K "mend_weight" "mend_weight" s_mend_weight f fd c) (TB : GxR.TabB base mg c Pt) (hPt : Pt ∈ Ps) (M : Free mg) (D1 : Df P w K mg base 1 "weight_of" ["weights", "tie"] spWeightOf) : FnOk P w K mg base CX0 3 f fd ["weights", "ties"] (spMend Ps) := by
  obtain ⟨f1, fd1, G1, g1, k1, b1⟩ := D1
  refine F.ok sc_mend_weight (fun vs H Q E h => ?_) (fun A outer s H vs Q E hr h => ?_)
  · obtain ⟨v, ta, ns, g, rfl, _⟩ := h
    rfl
  · obtain ⟨v, ta, ns, g, rfl, hta, hw, hT, q⟩ := h
    refine ⟨_, (pss_one (ps_ret (pe_sum (k := 1) (own := [("tie", 2)]) (g := gName 2) hr TB rfl rfl sc_mend_weight.nd (by rfl) M.sum (pi_seq (pv 1)) (blkOk_by (N := N_mend_weight) (sc := defScope s_mend_weight) (own := [("tie", 2)]) (by decide +kernel)) ⟨rfl, by decide +kernel, by decide +kernel⟩ (show (".0" : Str) ∉ N_mend_weight by decide +kernel)
        (fun _ _ _ _ _ _ _ => pg_name (i := 2) sc_mend_weight.nd rfl (.inl rfl)) (fun _ _ _ _ _ _ _ hr' => pe_call G1 hr' (by rfl) g1 k1 b1 .nil pass0 (pa_cons (pv 0) (pa_cons (pv 2) pa_nil)))))), ?_⟩
    rcases hta with hta | hta
    · refine ⟨.ref ta, rfl, ta, rfl, .inr ⟨⟨_, SqT.of hta⟩, hT Pt hPt, fun i m z H' => i + m = ns.length ∧ Kt Ps H H' ∧ z = sumW g (ns.take i), fun H2 hH2 => ⟨ns.length, by omega, Kt.tabbed hT hPt hH2, rfl⟩, fun i m z H' hw' => ?_⟩⟩
      obtain ⟨em, kt, rfl⟩ := hw'
      have hta' := kt.tup hT hta
      by_cases hi : i < ns.length
      · refine .inr ⟨⟨_, _, SqT.of hta', List.getElem?_eq_getElem (by rw [List.length_map]; exact hi)⟩, fun y H3 => Kt Ps H H3 ∧ y = g ns[i], fun y H3 n3 => ⟨m - 1, by omega, by omega, n3.1, ?_⟩, fun x H3 hy => ?_⟩
        · rw [n3.2, ← sumW_snoc, List.take_add_one, List.getElem?_eq_getElem hi]
          rfl
        · obtain ⟨rfl, fy⟩ := hy
          have ex : (ns.map V.int)[i]? = some x := fy _ (SqT.of hta')
          rw [List.getElem?_map, List.getElem?_eq_getElem hi] at ex
          cases ex
          refine ⟨rfl, v, rfl, .int ns[i], rfl, ?_⟩
          rcases hw with ⟨rfl, h1⟩ | ⟨wa, ws, rfl, h1, h2⟩
          · exact .inl ⟨_, rfl, 1, rfl, kt, (h1 _ (List.getElem_mem hi)).symm⟩
          · obtain ⟨⟨b0, b1⟩, e⟩ := h2 _ (List.getElem_mem hi)
            exact .inr ⟨wa, _, _, _, rfl, kt.tup hT h1, gW_at b0 b1, _, rfl, kt, e.symm⟩
      · refine .inl ⟨⟨_, SqT.of hta', by rw [List.length_map]; omega⟩, ?_⟩
        rw [List.take_of_length_le (by omega)]
        exact q _ kt
    · refine ⟨.ref ta, rfl, ta, rfl, .inl ⟨⟨_, SqL.of hta⟩, hT Pt hPt, fun i m z H' => i + m = ns.length ∧ Kt Ps H H' ∧ z = sumW g (ns.take i), fun H2 hH2 => ⟨ns.length, by omega, Kt.tabbed hT hPt hH2, rfl⟩, fun i m z H' hw' => ?_⟩⟩
      obtain ⟨em, kt, rfl⟩ := hw'
      have hta' := kt.lst hT hta
      by_cases hi : i < ns.length
      · refine .inr ⟨⟨_, _, SqL.of hta', List.getElem?_eq_getElem (by rw [List.length_map]; exact hi)⟩, fun y H3 => Kt Ps H H3 ∧ y = g ns[i], fun y H3 n3 => ⟨m - 1, by omega, by omega, n3.1, ?_⟩, fun x H3 hy => ?_⟩
        · rw [n3.2, ← sumW_snoc, List.take_add_one, List.getElem?_eq_getElem hi]
          rfl
        · obtain ⟨rfl, fy⟩ := hy
          have ex : (ns.map V.int)[i]? = some x := fy _ (SqL.of hta')
          rw [List.getElem?_map, List.getElem?_eq_getElem hi] at ex
          cases ex
          refine ⟨rfl, v, rfl, .int ns[i], rfl, ?_⟩
          rcases hw with ⟨rfl, h1⟩ | ⟨wa, ws, rfl, h1, h2⟩
          · exact .inl ⟨_, rfl, 1, rfl, kt, (h1 _ (List.getElem_mem hi)).symm⟩
          · obtain ⟨⟨b0, b1⟩, e⟩ := h2 _ (List.getElem_mem hi)
            exact .inr ⟨wa, _, _, _, rfl, kt.tup hT h1, gW_at b0 b1, _, rfl, kt, e.symm⟩
      · refine .inl ⟨⟨_, SqL.of hta', by rw [List.length_map]; omega⟩, ?_⟩
        rw [List.take_of_length_le (by omega)]
        exact q _ kt
theorem ok_l_long {f : Addr} {fd : FuncData} (F : Fun K "_law_long" "_law_long" s_l_long f fd) (M : Free mg) (Dd : Df P w K mg base 1 "_law_take" ["_law_deck_here", "_law_many"] spDraw) : FnOk P w K mg base CX0 2 f fd ["_law_deck_here"] spLong := by
  obtain ⟨fD, fdD, GD, gD, kD, bD⟩ := Dd
  refine F.ok sc_l_long (fun vs H Q E h => ?_) (fun cdv A outer s H vs Q E hr h => ?_)
  · obtain ⟨d, c, rfl, _⟩ := h
    rfl
  · obtain ⟨d, c, rfl, hD, q⟩ := h
    refine ⟨_, (pss_cons (ps_set (i := 1) sc_l_long.nd rfl (.inl rfl) pe_int)
      (pss_cons (ps_for PassesOwn.never rfl (pi_range1 (by rfl) M.range (pa_cons pe_int pa_nil)) (pg_name (i := 2) sc_l_long.nd rfl (.inl rfl))
        (pss_one (ps_set (i := 1) sc_l_long.nd rfl (.inl rfl) (pe_op op_add (pe_op op_mul (pv 1) (pe_op op_pow pe_int pe_int)) (pe_call GD hr (by rfl) gD kD bD .nil pass0 (pa_cons (pv 0) (pa_cons (pe_op op_pow pe_int pe_int) pa_nil)))))))
      (pss_one (ps_ret (pv 1))))), ?_⟩
    refine ⟨5, rfl, by decide, by decide, ?_⟩
    refine for_range (lo := 0) (n := 5) (fun i σ' H' => ∃ (y2 : Option V) (v : Int), σ' = [some (.ref d), some (.int v), y2] ∧ 0 ≤ v ∧ Deck H' d c ∧ Kp d c H H') ⟨none, 0, rfl, Int.le_refl _, hD, Kp.refl⟩ ?_ ?_
    · rintro i σ' H1 hi ⟨y2, v, rfl, v0, D1, K1⟩
      refine ⟨.int v, rfl, 10, 6, rfl, rfl, ⟨by decide, by decide, by decide⟩, v, _, rfl, rfl, .inr ⟨by decide, by decide⟩, .ref d, rfl, 10, 6, rfl, rfl, ⟨by decide, by decide, by decide⟩, d, c, _, rfl, D1, by decide, by decide, fun x H2 x0 x1 D2 K2 => ⟨_, _, rfl, rfl, _, _, rfl, Int.add_nonneg (Int.mul_nonneg v0 (by decide)) x0, D2, K1.trans K2⟩⟩
    · rintro σ' H1 ⟨y2, v, rfl, v0, D1, K1⟩
      exact ⟨.int v, rfl, q _ _ v0 D1 K1⟩
end
/-! ### the fixed choice, as it is told -/
def spFixed : Sp := fun vs H Q _ => ∃ (v : V) (n : Nat) (ts : List Tie), vs = [v] ∧ WebAt H v n ts ∧ WebOk n ts ∧
  (∀ ss r H', Told ts n ss → Cons ss ts → Same H H' → H' r = some (.tup (ss.map V.int)) → Q (.ref r) H') ∧ ∀ H', Odd ts n → Same H H' → Q .non H'
theorem valV_merge : ∀ {more kvs : List (Key × V)} {k : Key} {v : V}, valV (mergeK kvs more) k = some v → valV kvs k = some v ∨ (k, v) ∈ more
  | [], _, _, _, h => .inl h
  | p :: r, kvs, k, v, h => by
    have q := valV_merge (more := r) (kvs := putK kvs p.1 p.2) (k := k) (v := v) h
    rcases q with q | q
    · rw [valV_put] at q
      by_cases e : k = p.1
      · rw [if_pos e] at q
        obtain rfl := Option.some.inj q
        exact .inr (by rw [e]; simp)
      · rw [if_neg e] at q
        exact .inl q
    · exact .inr (List.mem_cons_of_mem _ q)
theorem told_of {ts : List Tie} {n : Nat} {ss : List Int} (hl : ss.length = n) (h : ∀ (i : Nat) (x : Int), ss[i]? = some x → ∃ m b, leader ts m ∧ RP ts m i b ∧ x = sideI b) : Told ts n ss := by
  refine ⟨hl, fun x hx => ?_, fun i h0 h1 => ?_⟩
  · obtain ⟨i, hi⟩ := List.getElem?_of_mem hx
    obtain ⟨m, b, _, _, rfl⟩ := h i x hi
    cases b
    · exact .inl rfl
    · exact .inr rfl
  · obtain ⟨h', e⟩ := sd_get (ss := ss) h0 (by rw [hl]; exact h1)
    obtain ⟨m, b, l, r, ex⟩ := h i.toNat _ (List.getElem?_eq_getElem h')
    refine ⟨m, l, ?_⟩
    have e2 : one? ss i = b := by
      unfold one?
      rw [e, ex]
      cases b <;> rfl
    rw [e2]
    rw [show ((i.toNat : Nat) : Int) = i from by omega] at r
    exact r
theorem dec_intF (a b : Int) : decide (V.int a = V.int b) = decide (a = b) := by
  by_cases h : a = b
  · rw [decide_eq_true h, h, decide_eq_true rfl]
  · rw [decide_eq_false h, decide_eq_false (fun z => h (V.int.inj z))]
/-! ### the law's own sides, walked -/
structure CS (ts : List Tie) (n : Nat) (ks : List Nb) (i : Nat) : Prop where
  nd : (ks.map (·.1)).Nodup
  ld : ∀ p ∈ ks, ∃ m, leader ts m ∧ RP ts m p.1 p.2
  cl : ∀ x ∈ ks.map (·.1), ∀ y, Rch ts x y → y ∈ ks.map (·.1)
  low : ∀ x : Int, 0 ≤ x → x < i → x ∈ ks.map (·.1)
  rg : ∀ x : Int, x ∈ ks.map (·.1) → 0 ≤ x ∧ x < n
theorem CS.lead {ts : List Tie} {n : Nat} {ks : List Nb} {i : Nat} (h : CS ts n ks i) (ok : ∀ t ∈ ts, TieOk n t) (hi : i < n) (no : (i : Int) ∉ ks.map (·.1)) : leader ts i := by
  rw [lead_iff ok ⟨by omega, by omega⟩]
  rintro ⟨x, x0, x1, r⟩
  exact no (h.cl x (h.low x x0 x1) i r)
theorem CS.off {ts : List Tie} {n : Nat} {ks : List Nb} {i : Nat} (h : CS ts n ks i) (no : (i : Int) ∉ ks.map (·.1)) {y : Int} (r : Rch ts i y) : y ∉ ks.map (·.1) := fun z => no (h.cl y z i r.symm)
theorem CS.more {ts : List Tie} {n : Nat} {ks : List Nb} {i : Nat} (h : CS ts n ks i) (ok : ∀ t ∈ ts, TieOk n t) (hi : i < n) (no : (i : Int) ∉ ks.map (·.1)) {k1 : List Nb} (sf : SF ts i k1 [] []) : CS ts n (ks ++ k1) (i + 1) := by
  have hl := h.lead ok hi no
  have em : (ks ++ k1).map (·.1) = ks.map (·.1) ++ k1.map (·.1) := List.map_append
  refine ⟨?_, fun p hp => ?_, fun x hx y r => ?_, fun x x0 x1 => ?_, fun x hx => ?_⟩
  · rw [em, List.nodup_append]
    refine ⟨h.nd, sf.nd, fun x hx z hz e => ?_⟩
    subst e
    exact h.off no ((sf.all x).mp hz) hx
  · rcases List.mem_append.mp hp with q | q
    · exact h.ld p q
    · exact ⟨_, hl, sf.rp p q⟩
  · rw [em] at hx ⊢
    rcases List.mem_append.mp hx with q | q
    · exact List.mem_append_left _ (h.cl x q y r)
    · exact List.mem_append_right _ ((sf.all y).mpr (((sf.all x).mp q).trans r))
  · rw [em]
    by_cases e : x < i
    · exact List.mem_append_left _ (h.low x x0 e)
    · have : x = i := by omega
      subst this
      exact List.mem_append_right _ ((sf.all _).mpr Rch.refl)
  · rw [em] at hx
    rcases List.mem_append.mp hx with q | q
    · exact h.rg x q
    · exact Rch.rng ok ⟨by omega, by omega⟩ ((sf.all x).mp q)
def valI (ks : List Nb) (j : Nat) : Int := match valV (kvOf ks) (Sum.inl (j : Int)) with
  | some (.int v) => v
  | _ => 0
theorem CS.told {ts : List Tie} {n : Nat} {ks : List Nb} (h : CS ts n ks n) : Told ts n ((List.range n).map (valI ks)) ∧ ∀ x : Int, 0 ≤ x → x < n → valV (kvOf ks) (Sum.inl x) = some (.int (sd ((List.range n).map (valI ks)) x)) := by
  have at' : ∀ j : Nat, j < n → ∃ b m, valV (kvOf ks) (Sum.inl (j : Int)) = some (.int (sideI b)) ∧ valI ks j = sideI b ∧ leader ts m ∧ RP ts m j b := fun j hj => by
    obtain ⟨⟨x, b⟩, hp, e⟩ := List.mem_map.mp (h.low j (by omega) (by omega))
    have e : x = (j : Int) := e
    subst e
    obtain ⟨m, h1, h2⟩ := h.ld _ hp
    have hv := kvOf_some h.nd hp
    refine ⟨b, m, hv, ?_, h1, h2⟩
    unfold valI
    rw [hv]
  refine ⟨told_of (by simp) fun i x e => ?_, fun x x0 x1 => ?_⟩
  · rw [List.getElem?_map] at e
    obtain ⟨j, e1, e2⟩ := Option.map_eq_some_iff.mp e
    have hj := List.mem_range.mp (List.mem_of_getElem? e1)
    rw [List.getElem?_range (by have := (List.getElem?_eq_some_iff.mp e1).1; simpa using this)] at e1
    cases e1
    obtain ⟨b, m, _, h2, h3, h4⟩ := at' i hj
    exact ⟨m, b, h3, h4, by rw [← e2, h2]⟩
  · obtain ⟨j, rfl⟩ : ∃ j : Nat, x = j := ⟨x.toNat, by omega⟩
    obtain ⟨b, m, h1, h2, _⟩ := at' j (by omega)
    rw [h1]
    unfold sd
    rw [Int.toNat_natCast, List.getD_eq_getElem?_getD, List.getElem?_map, List.getElem?_range (by omega)]
    show some (V.int (sideI b)) = some (V.int (valI ks j))
    rw [h2]
def prs (t : Tie) : List (Int × Int) := [(t.one, t.other), (t.other, t.one)]
def PairV (H : Hp) (v : V) (q : Int × Int) : Prop := ∃ a, v = .ref a ∧ H a = some (.tup [.int q.1, .int q.2])
theorem PairV.tk {H H' : Hp} (k : Tk H H') {v : V} {q : Int × Int} (h : PairV H v q) : PairV H' v q := by
  obtain ⟨a, rfl, e⟩ := h
  exact ⟨a, rfl, k _ _ e⟩
def nbE (t : Tie) (p : Int) (e : Nat) : List Nb := ((prs t).take e).flatMap fun q => if q.1 = p then [(q.2, t.foe)] else []
theorem nbE_two (t : Tie) (p : Int) : nbE t p 2 = nb1 t p := by
  unfold nbE nb1 prs
  simp only [List.take_succ_cons, List.take_nil, List.take_zero, List.flatMap_cons, List.flatMap_nil, List.append_nil]
  by_cases h1 : t.one = p <;> by_cases h2 : t.other = p
  · rw [if_pos h1, if_pos h2, if_pos h1.symm, if_pos h2.symm]
  · rw [if_pos h1, if_neg h2, if_pos h1.symm, if_neg (Ne.symm h2)]
  · rw [if_neg h1, if_pos h2, if_neg (Ne.symm h1), if_pos h2.symm]
  · rw [if_neg h1, if_neg h2, if_neg (Ne.symm h1), if_neg (Ne.symm h2)]
theorem nbE_succ {t : Tie} {p : Int} {e : Nat} {q : Int × Int} (h : (prs t)[e]? = some q) : nbE t p (e + 1) = nbE t p e ++ (if q.1 = p then [(q.2, t.foe)] else []) := by
  unfold nbE
  rw [List.take_add_one, h, List.flatMap_append]
  simp
def spLSides : Sp := fun vs H Q _ => ∃ (n : Nat) (L : Addr) (us : List V) (ts : List Tie), vs = [.int n, .ref L] ∧ H L = some (.lst us) ∧ Paired (TieV H) us ts ∧ WebOk n ts ∧ ∀ r H', Same H H' → (r = .non ↔ Odd ts n) → Q r H'
theorem side_add (b f : Bool) : (sideI b + (if decide (V.str (kindS f) = V.str "foe") = true then 1 else 0)) % 2 = sideI (b ^^ f) := by
  cases f <;> cases b <;> rfl
theorem Paired.app2 {α β : Type} {F : α → β → Prop} {a b : α} {x y : β} (h : F a x) (g : F b y) : Paired F [a, b] [x, y] := .cons h (.cons g .nil)
section
variable {P : Program} {w : World} {K : PySem.W.Frag} {mg : Str → Option Value} {base : Heap}
end
/-! ### k36: webs, and what is a mend, by the law -/
def spLTies : Sp := fun vs H Q _ => ∃ (d c : Addr) (n m : Int), vs = [.ref d, .int n, .int m] ∧ Deck H d c ∧ 1 ≤ n ∧ n ≤ 40 ∧ 0 ≤ m ∧ m ≤ 120 ∧ ∀ r us ts H', H' r = some (.tup us) → Paired (TieV H') us ts → WebOk n ts → (ts.length : Int) ≤ m → Deck H' d c → Kp d c H H' → Q (.ref r) H'
def listD (xs : List Int) : PyData := .list (xs.map PyData.int)
theorem shaped_listD (xs : List Int) : SeqAt.shaped (listD xs) = true := by
  unfold SeqAt.shaped listD
  rw [PyData.canLay0, PyData.depth, lay_ints, deep_ints]
  rfl
theorem eqvAll_ints : ∀ xs ys : List Int, PyData.eqvAll (xs.map PyData.int) (ys.map PyData.int) = decide (xs = ys)
  | [], [] => by simp [PyData.eqvAll]
  | [], y :: ys => by simp [PyData.eqvAll]
  | x :: xs, [] => by simp [PyData.eqvAll]
  | x :: xs, y :: ys => by
    rw [List.map_cons, List.map_cons, PyData.eqvAll, eqvAll_ints xs ys, PyData.eqv]
    by_cases h1 : x = y <;> by_cases h2 : xs = ys <;> simp [h1, h2]
theorem eqv_listD (xs ys : List Int) : PyData.eqv (listD xs) (listD ys) = decide (xs = ys) := by
  unfold listD
  rw [PyData.eqv]
  exact eqvAll_ints xs ys
theorem sorted_same {ks zs : List Int} (p : zs.Pairwise (· < ·)) (m : ∀ k, k ∈ zs ↔ k ∈ ks) : ks = zs ↔ ks.Pairwise (· < ·) := by
  constructor
  · intro e
    rw [e]
    exact p
  · intro q
    exact rising_ext q p fun z => (m z).symm
theorem in_ints (k : Int) (ks : List Int) : inV (.int k) (ks.map V.int) = ks.contains k := by
  unfold inV
  rw [Bool.eq_iff_iff, List.any_map, List.any_eq_true, List.contains_iff_mem]
  constructor
  · rintro ⟨x, hx, e⟩
    have e' : (x == k) = true := e
    rw [beq_iff_eq] at e'
    rw [← e']
    exact hx
  · intro h
    exact ⟨k, h, by show (k == k) = true; simp⟩
section
variable {P : Program} {w : World} {K : PySem.W.Frag} {mg : Str → Option Value} {base : Heap}
theorem ok_l_ties {f : Addr} {fd : FuncData} (F : Fun K "_law_ties" "_law_ties" s_l_ties f fd) (M : Free mg) (D_l_take : Df P w K mg base 1 "_law_take" ["_law_deck_here", "_law_many"] spDraw) : FnOk P w K mg base CX0 2 f fd ["_law_deck_here", "_law_many", "_law_most"] spLTies := by
  obtain ⟨f_l_take, fd_l_take, G_l_take, g_l_take, k_l_take, b_l_take⟩ := D_l_take
  refine F.ok sc_l_ties (fun vs H Q E h => ?_) (fun cdv A outer s H vs Q E hr h => ?_)
  · obtain ⟨d, c, n, m, rfl, _⟩ := h
    rfl
  · obtain ⟨d, c, n, m, rfl, hD, n1, n2, m0, m1, q⟩ := h
    refine ⟨_, (pss_cons (ps_set (i := 3) sc_l_ties.nd rfl (.inl rfl) (pe_lst pa_nil))
      (pss_cons (ps_while PassesOwn.never (PW.pt (pw_and (pt_cmpR op_gt (pv 1) pe_int (nomark _)) (pw_and1 (pt_cmpR op_lt (pe_callB call_len_seq (by rfl) M.len PySem.boot_len (pa_cons (pv 3) pa_nil)) (pv 2) (nomark _)))))
        (pss_cons (ps_set (i := 4) sc_l_ties.nd rfl (.inl rfl) (pe_call G_l_take (hr.mono (by decide)) (by rfl) g_l_take k_l_take b_l_take .nil pass0 (pa_cons (pv 0) (pa_cons (pv 1) pa_nil))))
        (Evl.pss_cut (ps_set (i := 5) sc_l_ties.nd rfl (.inl rfl) (pe_op op_mod (pe_op op_add (pe_op op_add (pv 4) pe_int) (pe_call G_l_take (hr.mono (by decide)) (by rfl) g_l_take k_l_take b_l_take .nil pass0 (pa_cons (pv 0) (pa_cons (pe_op op_sub (pv 1) pe_int) pa_nil)))) (pv 1)))
        (Evl.pss_cut (ps_expr (pe_bm PySem.F.plainAttrs_list PySem.F.slot_list_append PySem.F.type_list_append mt_append (pv 3) (pa_cons (pe_tup (pa_cons (pv 4) (pa_cons (pv 5) (pa_cons (pe_ix ix_list (pe_lst (pa_cons pe_str (pa_cons pe_str pa_nil))) (pe_call G_l_take (hr.mono (by decide)) (by rfl) g_l_take k_l_take b_l_take .nil pass0 (pa_cons (pv 0) (pa_cons pe_int pa_nil))) (fun _ _ => rfl)) pa_nil)))) pa_nil)))
        (pss_one (ps_if (PW.pt (pw_and (pt_cmpR op_eq (pe_call G_l_take (hr.mono (by decide)) (by rfl) g_l_take k_l_take b_l_take .nil pass0 (pa_cons (pv 0) (pa_cons pe_int pa_nil))) pe_int (nomark _)) (pw_and1 (pt_cmpR op_lt (pe_callB call_len_seq (by rfl) M.len PySem.boot_len (pa_cons (pv 3) pa_nil)) (pv 2) (nomark _)))))
          (pss_one (ps_expr (pe_bm PySem.F.plainAttrs_list PySem.F.slot_list_append PySem.F.type_list_append mt_append (pv 3) (pa_cons (pe_tup (pa_cons (pv 5) (pa_cons (pv 4) (pa_cons (pe_ix ix_list (pe_lst (pa_cons pe_str (pa_cons pe_str pa_nil))) (pe_call G_l_take (hr.mono (by decide)) (by rfl) g_l_take k_l_take b_l_take .nil pass0 (pa_cons (pv 0) (pa_cons pe_int pa_nil))) (fun _ _ => rfl)) pa_nil)))) pa_nil))))
          pss_nil))))))
      (pss_one (ps_ret (pe_callTy call_tuple_of (by rfl) M.tuple (by decide +kernel) (pa_cons (pv 3) pa_nil)))))), ?_⟩
    refine ⟨Nat.zero_le _, fun L nL => ?_⟩
    have hLd := hD.ned nL
    let W : Int → List V → List Tie → Hp → Prop := fun k us ts H' => H' L = some (.lst us) ∧ Paired (TieV H') us ts ∧ (∀ t ∈ ts, TieOk n t) ∧ (ts.length : Int) ≤ m ∧ k = m - ts.length ∧ Deck H' d c ∧ Kp d c H H'
    have exit : ∀ k us ts H', W k us ts H' → ∀ b, H' b = none → Q (.ref b) (upd H' b (.tup us)) := fun k us ts H' ⟨hL, hp, ok, hl, _, D, K⟩ b nb => q b us ts _ upd_same (ties_tk (Same.tk (same_new nb)) hp) ⟨n1, n2, by omega, ok⟩ hl (D.new nb) (K.trans (Kp.new nb))
    -- one tie more
    have more : ∀ (us : List V) (ts : List Tie) (H' : Hp) (t : Tie) (p : Addr), W (m - ts.length) us ts H' → (ts.length : Int) < m → TieOk n t → H' p = none → us.length < sizeLine ∧ W (m - ts.length - 1) (us ++ [.ref p]) (ts ++ [t]) (upd (upd H' p (.tup [.int t.one, .int t.other, .str (kindS t.foe)])) L (.lst (us ++ [.ref p]))) := fun us ts H' t p ⟨hL, hp, ok, hl, _, D, K⟩ lt okt np => by
      have lu : us.length = ts.length := Paired.length hp
      have hL2 := same_new (o := .tup [.int t.one, .int t.other, .str (kindS t.foe)]) np _ _ hL
      refine ⟨small1000 (by omega), upd_same, ?_, fun z hz => ?_, ?_, ?_, (D.new np).mut hLd.1 hLd.2, (K.trans (Kp.new np)).mut nL⟩
      · exact Paired.snoc (ties_tk (tk_lst hL2) (ties_tk (Same.tk (same_new np)) hp)) ⟨p, rfl, tk_lst hL2 _ _ upd_same⟩
      · rcases List.mem_append.mp hz with h | h
        · exact ok z h
        · rw [List.mem_singleton.mp h]
          exact okt
      · rw [List.length_append]
        show ((ts.length + 1 : Nat) : Int) ≤ m
        omega
      · rw [List.length_append]
        show m - (ts.length : Int) - 1 = m - ((ts.length + 1 : Nat) : Int)
        omega
    have pick : ∀ v5 : Int, 0 ≤ v5 → v5 < 2 → atI [V.str "friend", V.str "foe"] v5 = some (.str (kindS (decide (v5 = 1)))) := fun v5 h0 h1 => by
      have h01 : v5 = 0 ∨ v5 = 1 := by omega
      rcases h01 with e | e <;> subst e <;> rfl
    refine ⟨fun k σ' H' => ∃ (y4 y5 : Option V) (us : List V) (ts : List Tie), σ' = [some (.ref d), some (.int n), some (.int m), some (.ref L), y4, y5] ∧ W k us ts H', ⟨m.toNat, none, none, [], [], rfl, upd_same, .nil, fun t ht => by simp at ht, by simpa using m0, by simp; omega, hD.new nL, Kp.new nL⟩, ?_⟩
    rintro k σ' H1 ⟨y4, y5, us, ts, rfl, w1⟩
    obtain ⟨hL, hp, ok, hl, hk, D1, K1⟩ := id w1
    refine ⟨.int n, rfl, n, 1, rfl, rfl, _, rfl, ?_⟩
    refine ite2 (fun hn => ?_) (fun hn => ⟨.ref L, rfl, L, us, rfl, .inl ⟨SqL.of hL, fun b nb => exit _ us ts H1 w1 b nb⟩⟩)
    have hn : 1 < n := of_decide_eq_true hn
    refine ⟨.ref L, rfl, L, us, rfl, .inl (SqL.of hL), .int m, rfl, _, _, rfl, rfl, _, rfl, ?_⟩
    refine ite2 (fun hm => ?_) (fun hm => ⟨.ref L, rfl, L, us, rfl, .inl ⟨SqL.of hL, fun b nb => exit _ us ts H1 w1 b nb⟩⟩)
    have hm : (us.length : Int) < m := of_decide_eq_true hm
    have lu : us.length = ts.length := Paired.length hp
    refine ⟨fun σ' H' => ∃ k', k' < k ∧ ∃ (y4 y5 : Option V) (us : List V) (ts : List Tie), σ' = [some (.ref d), some (.int n), some (.int m), some (.ref L), y4, y5] ∧ W (k' : Nat) us ts H', fun _ _ h => h, ?_⟩
    refine ⟨.ref d, rfl, .int n, rfl, d, c, n, rfl, D1, by omega, by omega, fun v1 H2 a1 b1 D2 K2 => ?_⟩
    refine ⟨fun σ' H' => ∃ o2 : Int, σ' = [some (.ref d), some (.int n), some (.int m), some (.ref L), some (.int v1), some (.int o2)] ∧ TieOk n ⟨v1, o2, false⟩ ∧ W (m - ts.length) us ts H', ?_, ?_⟩
    · refine ⟨.int v1, rfl, v1, 1, rfl, rfl, .ref d, rfl, .int n, rfl, n, 1, rfl, rfl, d, c, n - 1, rfl, D2, by omega, by omega, fun v2 H3 a2 b2 D3 K3 => ⟨v1 + 1, v2, rfl, rfl, .int n, rfl, _, n, rfl, rfl, show (0 : Int) < n by omega, _, rfl, ⟨a1, b1, (mod_rng (by omega)).1, (mod_rng (by omega)).2, other_ne a1 b1 a2 b2⟩, ?_⟩⟩
      have K13 := K2.trans K3
      exact ⟨K13 _ _ hLd.1 hLd.2 hL, ties_tk ((K2.tk D1).trans (K3.tk D2)) hp, ok, hl, rfl, D3, K1.trans K13⟩
    rintro σ' H3 ⟨o2, rfl, okt, w3⟩
    refine ⟨fun σ' H' => ∃ (us : List V) (ts' : List Tie), σ' = [some (.ref d), some (.int n), some (.int m), some (.ref L), some (.int v1), some (.int o2)] ∧ ts'.length = ts.length + 1 ∧ W (m - ts'.length) us ts' H', ?_, ?_⟩
    · obtain ⟨hL3, hp3, ok3, hl3, _, D3, K3⟩ := id w3
      refine ⟨.ref L, rfl, .inl ⟨rfl, _, SqL.of hL3⟩, .int v1, rfl, .int o2, rfl, by show 2 ≤ sizeLine; decide, fun p np => ⟨.ref d, rfl, d, c, 2, rfl, D3.new np, by decide, by decide, fun v5 H5 a5 b5 D5 K5 => ?_⟩⟩
      refine ⟨p, _, v5, _, rfl, rfl, SqL.of (K5 p _ (D3.ned np).1 (D3.ned np).2 upd_same), pick v5 a5 b5, by show 3 ≤ sizeLine; decide, fun q2 nq => ?_⟩
      have K35 := (Kp.new (d := d) (c := c) np).trans K5
      have w5 : W (m - ts.length) us ts H5 := ⟨K35 _ _ hLd.1 hLd.2 hL3, ties_tk (K35.tk D3) hp3, ok3, hl3, rfl, D5, K3.trans K35⟩
      obtain ⟨z1, z2⟩ := more us ts H5 ⟨v1, o2, decide (v5 = 1)⟩ q2 w5 (by omega) okt nq
      refine ⟨L, us, _, rfl, rfl, same_new nq _ _ w5.1, z1, us ++ [.ref q2], ts ++ [⟨v1, o2, decide (v5 = 1)⟩], rfl, by simp, ?_⟩
      have e : m - (ts.length : Int) - 1 = m - ((ts ++ [(⟨v1, o2, decide (v5 = 1)⟩ : Tie)]).length : Nat) := by rw [List.length_append]; show _ = m - ((ts.length + 1 : Nat) : Int); omega
      rw [← e]
      exact z2
    rintro σ' H4 ⟨us4, ts4, rfl, l4, w4⟩
    obtain ⟨hL4, hp4, ok4, hl4, _, D4, K4⟩ := id w4
    refine ⟨.ref d, rfl, d, c, 4, rfl, D4, by decide, by decide, fun v6 H5 a6 b6 D5 K5 => ⟨rfl, _, rfl, ?_⟩⟩
    have w5 : W (m - ts4.length) us4 ts4 H5 := ⟨K5 _ _ hLd.1 hLd.2 hL4, ties_tk (K5.tk D4) hp4, ok4, hl4, rfl, D5, K4.trans K5⟩
    have out : ∃ k', k' < k ∧ W (k' : Nat) us4 ts4 H5 := ⟨(m - ts4.length).toNat, by omega, by rw [show (((m - ts4.length).toNat : Nat) : Int) = m - ts4.length from by omega]; exact w5⟩
    refine ite2 (fun _ => ?_) (fun _ => ?_)
    · refine ⟨.ref L, rfl, L, us4, rfl, .inl (SqL.of w5.1), .int m, rfl, _, _, rfl, rfl, _, rfl, ?_⟩
      refine ite2 (fun h7 => ?_) (fun _ => ?_)
      · have h7 : (us4.length : Int) < m := of_decide_eq_true h7
        have lu4 : us4.length = ts4.length := Paired.length hp4
        refine ⟨.ref L, rfl, .inl ⟨rfl, _, SqL.of w5.1⟩, .int o2, rfl, .int v1, rfl, by show 2 ≤ sizeLine; decide, fun p np => ⟨.ref d, rfl, d, c, 2, rfl, D5.new np, by decide, by decide, fun v7 H7 a7 b7 D7 K7 => ?_⟩⟩
        refine ⟨p, _, v7, _, rfl, rfl, SqL.of (K7 p _ (D5.ned np).1 (D5.ned np).2 upd_same), pick v7 a7 b7, by show 3 ≤ sizeLine; decide, fun q2 nq => ?_⟩
        have K57 := (Kp.new (d := d) (c := c) np).trans K7
        have w7 : W (m - ts4.length) us4 ts4 H7 := ⟨K57 _ _ hLd.1 hLd.2 w5.1, ties_tk (K57.tk D5) w5.2.1, ok4, hl4, rfl, D7, w5.2.2.2.2.2.2.trans K57⟩
        obtain ⟨z1, z2⟩ := more us4 ts4 H7 ⟨o2, v1, decide (v7 = 1)⟩ q2 w7 (by omega) ⟨okt.2.2.1, okt.2.2.2.1, okt.1, okt.2.1, Ne.symm okt.2.2.2.2⟩ nq
        refine ⟨L, us4, _, rfl, rfl, same_new nq _ _ w7.1, z1, (m - ts4.length - 1).toNat, by omega, _, _, us4 ++ [.ref q2], ts4 ++ [⟨o2, v1, decide (v7 = 1)⟩], rfl, ?_⟩
        rw [show (((m - ts4.length - 1).toNat : Nat) : Int) = m - ts4.length - 1 from by omega]
        exact z2
      · obtain ⟨k', h1, h2⟩ := out
        exact ⟨k', h1, _, _, us4, ts4, rfl, h2⟩
    · obtain ⟨k', h1, h2⟩ := out
      exact ⟨k', h1, _, _, us4, ts4, rfl, h2⟩
end
/-! ### least mends: the mathematics -/
def brkF (c : Int → Bool) (t : Tie) : Bool := (c t.one == c t.other) == t.foe
def badF (ts : List Tie) (c : Int → Bool) (es : List Int) : List Int := es.filter fun e => brkF c (tieAt ts e)
def tiesIn (ts : List Tie) (P : List Int) : List Int := (rng ts.length).filter fun e => decide ((tieAt ts e).one ∈ P)
abbrev WL := Int × List Int
def valF (ts : List Tie) (g : Int → Int) (c : Int → Bool) (es : List Int) : WL := (sumW g (badF ts c es), badF ts c es)
/-! the order of pairs of a number and a row of numbers -/
def ltL : List Int → List Int → Bool
  | [], [] => false
  | [], _ :: _ => true
  | _ :: _, [] => false
  | x :: xs, y :: ys => if x = y then ltL xs ys else decide (x < y)
def ltW (p q : WL) : Bool := if p.1 = q.1 then ltL p.2 q.2 else decide (p.1 < q.1)
theorem ltL_irr : ∀ xs : List Int, ltL xs xs = false
  | [] => rfl
  | x :: xs => by
    show (if x = x then ltL xs xs else decide (x < x)) = false
    rw [if_pos rfl]
    exact ltL_irr xs
theorem ltL_asym : ∀ xs ys : List Int, ltL xs ys = true → ltL ys xs = false
  | [], [], h => by cases h
  | [], _ :: _, _ => rfl
  | _ :: _, [], h => by cases h
  | x :: xs, y :: ys, h => by
    change (if x = y then ltL xs ys else decide (x < y)) = true at h
    show (if y = x then ltL ys xs else decide (y < x)) = false
    by_cases e : x = y
    · rw [if_pos e] at h
      rw [if_pos e.symm]
      exact ltL_asym xs ys h
    · rw [if_neg e] at h
      rw [if_neg (Ne.symm e)]
      have := of_decide_eq_true h
      exact decide_eq_false (by omega)
theorem ltL_trans : ∀ xs ys zs : List Int, ltL ys xs = false → ltL zs ys = false → ltL zs xs = false
  | xs, ys, [], h1, h2 => by
    cases xs with
    | nil => rfl
    | cons x xs =>
      cases ys with
      | nil => exact h1
      | cons y ys => cases h2
  | [], _, _ :: _, _, _ => rfl
  | x :: xs, [], z :: zs, h1, _ => by cases h1
  | x :: xs, y :: ys, z :: zs, h1, h2 => by
    change (if y = x then ltL ys xs else decide (y < x)) = false at h1
    change (if z = y then ltL zs ys else decide (z < y)) = false at h2
    show (if z = x then ltL zs xs else decide (z < x)) = false
    by_cases e1 : y = x
    · rw [if_pos e1] at h1
      by_cases e2 : z = y
      · rw [if_pos e2] at h2
        rw [if_pos (e2.trans e1)]
        exact ltL_trans xs ys zs h1 h2
      · rw [if_neg e2] at h2
        have := of_decide_eq_false h2
        rw [if_neg (by omega)]
        exact decide_eq_false (by omega)
    · rw [if_neg e1] at h1
      have h1 := of_decide_eq_false h1
      by_cases e2 : z = y
      · rw [if_neg (by omega)]
        exact decide_eq_false (by omega)
      · rw [if_neg e2] at h2
        have := of_decide_eq_false h2
        rw [if_neg (by omega)]
        exact decide_eq_false (by omega)
theorem ltL_tri : ∀ xs ys : List Int, ltL xs ys = false → ltL ys xs = false → xs = ys
  | [], [], _, _ => rfl
  | [], _ :: _, h, _ => by cases h
  | _ :: _, [], _, h => by cases h
  | x :: xs, y :: ys, h, g => by
    change (if x = y then ltL xs ys else decide (x < y)) = false at h
    change (if y = x then ltL ys xs else decide (y < x)) = false at g
    by_cases e : x = y
    · rw [if_pos e] at h
      rw [if_pos e.symm] at g
      rw [e, ltL_tri xs ys h g]
    · rw [if_neg e] at h
      rw [if_neg (Ne.symm e)] at g
      have := of_decide_eq_false h
      have := of_decide_eq_false g
      omega
theorem ltW_asym {p q : WL} (h : ltW p q = true) : ltW q p = false := by
  unfold ltW at *
  by_cases e : p.1 = q.1
  · rw [if_pos e] at h
    rw [if_pos e.symm]
    exact ltL_asym _ _ h
  · rw [if_neg e] at h
    rw [if_neg (Ne.symm e)]
    have := of_decide_eq_true h
    exact decide_eq_false (by omega)
theorem ltW_trans {p q r : WL} (h : ltW q p = false) (g : ltW r q = false) : ltW r p = false := by
  unfold ltW at *
  by_cases e1 : q.1 = p.1
  · rw [if_pos e1] at h
    by_cases e2 : r.1 = q.1
    · rw [if_pos e2] at g
      rw [if_pos (e2.trans e1)]
      exact ltL_trans _ _ _ h g
    · rw [if_neg e2] at g
      have := of_decide_eq_false g
      rw [if_neg (by omega)]
      exact decide_eq_false (by omega)
  · rw [if_neg e1] at h
    have := of_decide_eq_false h
    by_cases e2 : r.1 = q.1
    · rw [if_neg (by omega)]
      exact decide_eq_false (by omega)
    · rw [if_neg e2] at g
      have := of_decide_eq_false g
      rw [if_neg (by omega)]
      exact decide_eq_false (by omega)
theorem ltW_tri {p q : WL} (h : ltW p q = false) (g : ltW q p = false) : p = q := by
  unfold ltW at *
  by_cases e : p.1 = q.1
  · rw [if_pos e] at h
    rw [if_pos e.symm] at g
    exact Prod.ext e (ltL_tri _ _ h g)
  · rw [if_neg e] at h
    rw [if_neg (Ne.symm e)] at g
    have := of_decide_eq_false h
    have := of_decide_eq_false g
    omega
theorem ltW_fst {p q : WL} (h : ltW q p = false) : p.1 ≤ q.1 := by
  unfold ltW at h
  by_cases e : q.1 = p.1
  · omega
  · rw [if_neg e] at h
    have := of_decide_eq_false h
    omega
/-! the least of a part -/
structure LexMin (ts : List Tie) (g : Int → Int) (es : List Int) (x : WL) : Prop where
  ex : ∃ c, x = valF ts g c es
  le : ∀ c, ltW (valF ts g c es) x = false
theorem LexMin.one {ts : List Tie} {g : Int → Int} {es : List Int} {x y : WL} (h : LexMin ts g es x) (k : LexMin ts g es y) : x = y := by
  obtain ⟨c, ec⟩ := h.ex
  obtain ⟨d, ed⟩ := k.ex
  have h1 := h.le d
  rw [← ed] at h1
  have h2 := k.le c
  rw [← ec] at h2
  exact ltW_tri h2 h1
structure LeastV (ts : List Tie) (g : Int → Int) (es : List Int) (v : Int) : Prop where
  ex : ∃ c, v = sumW g (badF ts c es)
  le : ∀ c, v ≤ sumW g (badF ts c es)
theorem LexMin.val {ts : List Tie} {g : Int → Int} {es : List Int} {x : WL} (h : LexMin ts g es x) : LeastV ts g es x.1 := by
  obtain ⟨c, ec⟩ := h.ex
  exact ⟨⟨c, by rw [ec]; rfl⟩, fun d => ltW_fst (h.le d)⟩
theorem LeastV.one {ts : List Tie} {g : Int → Int} {es : List Int} {v w : Int} (h : LeastV ts g es v) (k : LeastV ts g es w) : v = w := by
  obtain ⟨c, ec⟩ := h.ex
  obtain ⟨d, ed⟩ := k.ex
  have := h.le d
  have := k.le c
  omega
theorem badF_flip (ts : List Tie) (c : Int → Bool) (es : List Int) : badF ts (fun p => !c p) es = badF ts c es := by
  unfold badF
  refine List.filter_congr fun e _ => ?_
  unfold brkF
  show (((!c (tieAt ts e).one) == (!c (tieAt ts e).other)) == (tieAt ts e).foe) = ((c (tieAt ts e).one == c (tieAt ts e).other) == (tieAt ts e).foe)
  cases c (tieAt ts e).one <;> cases c (tieAt ts e).other <;> rfl
theorem badF_congr {ts : List Tie} {c d : Int → Bool} {es P : List Int} (h : ∀ e ∈ es, (tieAt ts e).one ∈ P ∧ (tieAt ts e).other ∈ P) (k : ∀ p ∈ P, c p = d p) : badF ts c es = badF ts d es := by
  unfold badF
  refine List.filter_congr fun e he => ?_
  unfold brkF
  rw [k _ (h e he).1, k _ (h e he).2]
theorem sumW_nonneg {g : Int → Int} : ∀ {es : List Int}, (∀ e ∈ es, 1 ≤ g e) → (es.length : Int) ≤ sumW g es
  | [], _ => Int.le_refl _
  | e :: es, h => by
    have ih := sumW_nonneg (g := g) (es := es) fun x hx => h x (List.mem_cons_of_mem _ hx)
    have := h e List.mem_cons_self
    unfold sumW at ih ⊢
    rw [List.map_cons, List.sum_cons, List.length_cons]
    omega
theorem LexMin.zero {ts : List Tie} {g : Int → Int} {es : List Int} (gp : ∀ e ∈ es, 1 ≤ g e) {c : Int → Bool} (h : badF ts c es = []) : LexMin ts g es (0, []) := by
  refine ⟨⟨c, by unfold valF; rw [h]; rfl⟩, fun d => ?_⟩
  have n := sumW_nonneg (g := g) (es := badF ts d es) fun e he => gp e (List.mem_filter.mp he).1
  unfold ltW valF
  by_cases e : sumW g (badF ts d es) = 0
  · rw [if_pos e]
    have : (badF ts d es).length = 0 := by omega
    rw [List.length_eq_zero_iff.mp this]
    rfl
  · rw [if_neg e]
    exact decide_eq_false (show ¬ sumW g (badF ts d es) < 0 by omega)
/-! parts -/
structure Parts (ts : List Tie) (n : Nat) (Ps : List (List Int)) : Prop where
  cl : ∀ P ∈ Ps, ∀ t ∈ ts, t.one ∈ P ↔ t.other ∈ P
  dis : Ps.Pairwise fun P Q => ∀ p ∈ P, p ∉ Q
  cov : ∀ p : Int, 0 ≤ p → p < n → ∃ P ∈ Ps, p ∈ P
theorem parts_of_web {ts : List Tie} {n : Nat} (ok : ∀ t ∈ ts, TieOk n t) : Parts ts n (partsTo ts n n) := by
  refine ⟨fun P hP t ht => ?_, ?_, fun p h0 h1 => ?_⟩
  · obtain ⟨s, hs, rfl⟩ := List.mem_map.mp hP
    have o := ok t ht
    rw [mem_part, mem_part]
    have ad : Adj ts t.one t.other t.foe := ⟨t, ht, rfl, .inl ⟨rfl, rfl⟩⟩
    constructor
    · intro h
      exact ⟨⟨o.2.2.1, o.2.2.2.1⟩, h.2.trans (Rch.adj ad)⟩
    · intro h
      exact ⟨⟨o.1, o.2.1⟩, h.2.trans (Rch.adj ad).symm⟩
  · unfold partsTo
    rw [List.pairwise_map]
    have nd : ((rng n).filter fun s => @decide (leader ts s) (Classical.propDecidable _)).Pairwise (· < ·) := (rng_rising n).filter _
    refine nd.imp_of_mem fun {a b} ha hb lt p hp hq => ?_
    have la : leader ts a := by simpa using (List.mem_filter.mp ha).2
    have lb : leader ts b := by simpa using (List.mem_filter.mp hb).2
    rw [mem_part] at hp hq
    have := lb a (hq.2.trans hp.2.symm)
    omega
  · obtain ⟨m, hm, hr, hc⟩ := has_leader ok ⟨h0, h1⟩
    refine ⟨partOf ts n m, List.mem_map.mpr ⟨m, List.mem_filter.mpr ⟨mem_rng.mpr hr, @decide_eq_true _ (_) hm⟩, rfl⟩, mem_part.mpr ⟨⟨h0, h1⟩, hc⟩⟩
theorem tiesIn_mem {ts : List Tie} {P : List Int} {e : Int} : e ∈ tiesIn ts P ↔ (0 ≤ e ∧ e < (ts.length : Int)) ∧ (tieAt ts e).one ∈ P := by
  unfold tiesIn
  rw [List.mem_filter, mem_rng, decide_eq_true_iff]
theorem tiesIn_cl {ts : List Tie} {n : Nat} {Ps : List (List Int)} (h : Parts ts n Ps) {P : List Int} (hP : P ∈ Ps) : ∀ e ∈ tiesIn ts P, (tieAt ts e).one ∈ P ∧ (tieAt ts e).other ∈ P := fun e he => by
  have he := tiesIn_mem.mp he
  exact ⟨he.2, (h.cl P hP _ (tieAt_mem (mem_rng.mpr he.1))).mp he.2⟩
theorem lex_all {ts : List Tie} {g : Int → Int} : ∀ {Ps : List (List Int)} {xs : List WL}, (∀ P ∈ Ps, ∀ e ∈ tiesIn ts P, (tieAt ts e).one ∈ P ∧ (tieAt ts e).other ∈ P) → Ps.Pairwise (fun P Q => ∀ p ∈ P, p ∉ Q) → Paired (fun P x => LexMin ts g (tiesIn ts P) x) Ps xs → ∃ c, Paired (fun P x => x = valF ts g c (tiesIn ts P)) Ps xs
  | _, _, _, _, .nil => ⟨fun _ => false, .nil⟩
  | P :: Ps, x :: xs, cl, dis, .cons h t => by
    have dis := List.pairwise_cons.mp dis
    obtain ⟨c, hc⟩ := lex_all (fun Q hQ => cl Q (List.mem_cons_of_mem _ hQ)) dis.2 t
    obtain ⟨d, hd⟩ := h.ex
    refine ⟨fun p => if p ∈ P then d p else c p, .cons ?_ ?_⟩
    · rw [hd]
      unfold valF
      rw [badF_congr (cl P List.mem_cons_self) (c := d) (d := fun p => if p ∈ P then d p else c p) fun p hp => (if_pos hp).symm]
    · have key : ∀ {Qs : List (List Int)} {ys : List WL}, (∀ Q ∈ Qs, (∀ p ∈ P, p ∉ Q) ∧ ∀ e ∈ tiesIn ts Q, (tieAt ts e).one ∈ Q ∧ (tieAt ts e).other ∈ Q) → Paired (fun P x => x = valF ts g c (tiesIn ts P)) Qs ys → Paired (fun Q x => x = valF ts g (fun p => if p ∈ P then d p else c p) (tiesIn ts Q)) Qs ys := by
        intro Qs ys hq hp
        induction hp with
        | nil => exact .nil
        | @cons Q y Qs ys h t ih =>
          refine .cons ?_ (ih fun R hR => hq R (List.mem_cons_of_mem _ hR))
          have hQ := hq Q List.mem_cons_self
          rw [h]
          unfold valF
          rw [badF_congr hQ.2 (c := c) (d := fun p => if p ∈ P then d p else c p) fun p hp => (if_neg fun z => hQ.1 p z hp).symm]
      exact key (fun Q hQ => ⟨dis.1 Q hQ, cl Q (List.mem_cons_of_mem _ hQ)⟩) hc
theorem sumW_app (g : Int → Int) (xs ys : List Int) : sumW g (xs ++ ys) = sumW g xs + sumW g ys := by
  unfold sumW
  rw [List.map_append, List.sum_append]
theorem sumW_perm {g : Int → Int} {xs ys : List Int} (h : xs.Perm ys) : sumW g xs = sumW g ys := by
  unfold sumW
  have : ∀ {xs ys : List Int}, xs.Perm ys → xs.sum = ys.sum := fun h => by
    induction h with
    | nil => rfl
    | cons x _ ih => rw [List.sum_cons, List.sum_cons, ih]
    | swap x y l => simp only [List.sum_cons]; omega
    | trans _ _ i j => exact i.trans j
  exact this (h.map g)
theorem bad_perm {ts : List Tie} {n : Nat} {Ps : List (List Int)} (h : Parts ts n Ps) (ok : ∀ t ∈ ts, TieOk n t) (c : Int → Bool) : (badF ts c (rng ts.length)).Perm (Ps.flatMap fun P => badF ts c (tiesIn ts P)) := by
  have nd1 : (badF ts c (rng ts.length)).Nodup := ((rng_rising ts.length).imp fun {a b} z => by omega).filter _
  have nd2 : (Ps.flatMap fun P => badF ts c (tiesIn ts P)).Nodup := by
    refine List.pairwise_flatMap.mpr ⟨fun P _ => (((rng_rising ts.length).imp fun {a b} z => by omega).filter _).filter _, ?_⟩
    refine h.dis.imp fun {P Q} hpq e he e' hq z => ?_
    subst z
    have h1 := (tiesIn_mem.mp (List.mem_filter.mp he).1).2
    have h2 := (tiesIn_mem.mp (List.mem_filter.mp hq).1).2
    exact hpq _ h1 h2
  refine (List.perm_ext_iff_of_nodup nd1 nd2).mpr fun e => ?_
  rw [List.mem_flatMap]
  constructor
  · intro he
    have he := List.mem_filter.mp he
    have hr := mem_rng.mp he.1
    have o := ok _ (tieAt_mem he.1)
    obtain ⟨P, hP, hp⟩ := h.cov (tieAt ts e).one o.1 o.2.1
    exact ⟨P, hP, List.mem_filter.mpr ⟨tiesIn_mem.mpr ⟨hr, hp⟩, he.2⟩⟩
  · rintro ⟨P, hP, he⟩
    have he := List.mem_filter.mp he
    exact List.mem_filter.mpr ⟨mem_rng.mpr (tiesIn_mem.mp he.1).1, he.2⟩
theorem flat_vals {ts : List Tie} {g : Int → Int} {c : Int → Bool} : ∀ {Ps : List (List Int)} {xs : List WL}, Paired (fun P x => x = valF ts g c (tiesIn ts P)) Ps xs → xs.flatMap (·.2) = Ps.flatMap (fun P => badF ts c (tiesIn ts P)) ∧ (xs.map (·.1)).sum = sumW g (Ps.flatMap fun P => badF ts c (tiesIn ts P))
  | _, _, .nil => ⟨rfl, rfl⟩
  | P :: Ps, x :: xs, .cons h t => by
    obtain ⟨i1, i2⟩ := flat_vals t
    refine ⟨by rw [List.flatMap_cons, List.flatMap_cons, i1, h]; rfl, ?_⟩
    rw [List.map_cons, List.sum_cons, List.flatMap_cons, sumW_app, i2, h]
    rfl
/-- what is told of the least -/
structure ToldL (ts : List Tie) (n : Nat) (g : Int → Int) (xs : List WL) (c : Int → Bool) : Prop where
  lex : Paired (fun P x => LexMin ts g (tiesIn ts P) x) (partsTo ts n n) xs
  perm : (xs.flatMap (·.2)).Perm (badF ts c (rng ts.length))
  sum : (xs.map (·.1)).sum = sumW g (badF ts c (rng ts.length))
  le : ∀ d, sumW g (badF ts c (rng ts.length)) ≤ sumW g (badF ts d (rng ts.length))
theorem sum_le_sum {ts : List Tie} {g : Int → Int} {d : Int → Bool} : ∀ {Ps : List (List Int)} {xs : List WL}, Paired (fun P x => LexMin ts g (tiesIn ts P) x) Ps xs → (xs.map (·.1)).sum ≤ sumW g (Ps.flatMap fun P => badF ts d (tiesIn ts P))
  | _, _, .nil => Int.le_refl _
  | P :: Ps, x :: xs, .cons h t => by
    have ih := sum_le_sum (d := d) t
    have := h.val.le d
    rw [List.map_cons, List.sum_cons, List.flatMap_cons, sumW_app]
    omega
theorem told_of_lex {ts : List Tie} {n : Nat} {g : Int → Int} {xs : List WL} (ok : ∀ t ∈ ts, TieOk n t) (h : Paired (fun P x => LexMin ts g (tiesIn ts P) x) (partsTo ts n n) xs) : ∃ c, ToldL ts n g xs c := by
  have pt := parts_of_web ok
  obtain ⟨c, hc⟩ := lex_all (fun P hP => tiesIn_cl pt hP) pt.dis h
  obtain ⟨f1, f2⟩ := flat_vals hc
  have pm := bad_perm pt ok c
  refine ⟨c, h, by rw [f1]; exact pm.symm, by rw [f2]; exact (sumW_perm pm).symm, fun d => ?_⟩
  rw [sumW_perm pm, ← f2, sumW_perm (bad_perm pt ok d)]
  exact sum_le_sum h
theorem lex_one {ts : List Tie} {g : Int → Int} : ∀ {Ps : List (List Int)} {xs ys : List WL}, Paired (fun P x => LexMin ts g (tiesIn ts P) x) Ps xs → Paired (fun P x => LexMin ts g (tiesIn ts P) x) Ps ys → xs = ys
  | _, _, _, .nil, .nil => rfl
  | _, _, _, .cons h t, .cons k u => by rw [h.one k, lex_one t u]
theorem vals_one {ts : List Tie} {g : Int → Int} : ∀ {Ps : List (List Int)} {xs : List WL} {vs : List Int}, Paired (fun P x => LexMin ts g (tiesIn ts P) x) Ps xs → Paired (fun P v => LeastV ts g (tiesIn ts P) v) Ps vs → vs = xs.map (·.1)
  | _, _, _, .nil, .nil => rfl
  | _, _, _, .cons h t, .cons k u => by
    have e := k.one h.val
    rw [vals_one t u, e]
    rfl
theorem lex_fill {ts : List Tie} {g : Int → Int} {f : List Int → Bool} : ∀ {Ps : List (List Int)} {ys : List WL}, (∀ P ∈ Ps, f P = false → LexMin ts g (tiesIn ts P) (0, [])) → Paired (fun P x => LexMin ts g (tiesIn ts P) x) (Ps.filter f) ys → ∃ xs, Paired (fun P x => LexMin ts g (tiesIn ts P) x) Ps xs ∧ xs.flatMap (·.2) = ys.flatMap (·.2)
  | [], _, _, .nil => ⟨[], .nil, rfl⟩
  | P :: Ps, ys, hz, h => by
    cases hf : f P with
    | false =>
      rw [List.filter_cons_of_neg (by rw [hf]; exact Bool.false_ne_true)] at h
      obtain ⟨xs, h1, h2⟩ := lex_fill (fun Q hQ => hz Q (List.mem_cons_of_mem _ hQ)) h
      exact ⟨(0, []) :: xs, .cons (hz P List.mem_cons_self hf) h1, by rw [List.flatMap_cons, h2]; rfl⟩
    | true =>
      rw [List.filter_cons_of_pos hf] at h
      cases h with
      | @cons _ y _ ys h0 t =>
        obtain ⟨xs, h1, h2⟩ := lex_fill (fun Q hQ => hz Q (List.mem_cons_of_mem _ hQ)) t
        exact ⟨y :: xs, .cons h0 h1, by rw [List.flatMap_cons, List.flatMap_cons, h2]⟩
/-! two sides, and odd rings -/
theorem walk_brk {c : Int → Bool} {ts : List Tie} (h : ∀ t ∈ ts, brkF c t = false) {x y : Int} {p : Bool} (r : RP ts x y p) : (c x ^^ c y) = p := by
  have one : ∀ {a b : Int} {k : Bool}, Adj ts a b k → (c a ^^ c b) = k := fun {a b k} ad => by
    obtain ⟨t, ht, rfl, e⟩ := ad
    have hb := h t ht
    unfold brkF at hb
    rcases e with ⟨rfl, rfl⟩ | ⟨rfl, rfl⟩ <;> revert hb <;> cases c t.one <;> cases c t.other <;> cases t.foe <;> decide
  induction r with
  | nil => cases c x <;> rfl
  | step r ad ih =>
    have := one ad
    rw [← ih, ← this]
    rename_i b _ _ _
    cases c x <;> cases c b <;> cases c _ <;> rfl
theorem brk_no_odd {c : Int → Bool} {ts : List Tie} {n : Nat} (h : ∀ t ∈ ts, brkF c t = false) : ¬ Odd ts n := fun ⟨x, _, r⟩ => by
  have := walk_brk h r
  cases hc : c x <;> rw [hc] at this <;> cases this
open Classical in
theorem no_odd_brk {ts : List Tie} {n : Nat} (ok : ∀ t ∈ ts, TieOk n t) (h : ¬ Odd ts n) : ∃ c : Int → Bool, ∀ t ∈ ts, brkF c t = false := by
  refine ⟨fun x => decide (∃ m, leader ts m ∧ (0 ≤ m ∧ m < n) ∧ RP ts m x true), fun t ht => ?_⟩
  have o := ok t ht
  obtain ⟨m, hm, hr, p, hp⟩ := has_leader ok ⟨o.1, o.2.1⟩
  have ad : Adj ts t.one t.other t.foe := ⟨t, ht, rfl, .inl ⟨rfl, rfl⟩⟩
  have hq := hp.step ad
  have val : ∀ {x : Int} {p : Bool}, RP ts m x p → decide (∃ m, leader ts m ∧ (0 ≤ m ∧ m < (n : Int)) ∧ RP ts m x true) = p := fun {x p} r => by
    cases p with
    | true => exact decide_eq_true ⟨m, hm, hr, r⟩
    | false =>
      refine decide_eq_false fun ⟨m', hm', hr', r'⟩ => ?_
      have e : m = m' := leader_one hm hm' ⟨_, r⟩ ⟨_, r'⟩
      subst e
      have := r'.trans r.symm
      exact h ⟨m, hr, this⟩
  unfold brkF
  dsimp only
  rw [val hp, val hq]
  cases p <;> cases t.foe <;> rfl
/-! ### least mends: the parts in which there is an odd ring -/
theorem Kt.mutN {Ps : List Addr} {H H' : Hp} {a : Addr} {o : HO} (k : Kt Ps H H') (t : Tabs Ps H) (n : H a = none) : Kt Ps H (upd H' a o) := by
  have na : a ∉ Ps := fun z => by
    obtain ⟨ps, e, _⟩ := t a z
    rw [n] at e
    cases e
  refine ⟨fun P hP => ?_, fun b o' hb e => ?_⟩
  · obtain ⟨ps, e, t'⟩ := k.tab P hP
    exact ⟨ps, by rw [upd_ne (show P ≠ a from fun z => na (z ▸ hP))]; exact e, t'⟩
  · rw [upd_ne (fun z => by rw [z, n] at e; cases e)]
    exact k.keep b o' hb e
theorem NbV.kp {H H' : Hp} (k : ∀ b o, (∃ xs, o = .lst xs ∨ o = .tup xs) → H b = some o → H' b = some o) {v : V} {p : Nb} (h : NbV H v p) : NbV H' v p := by
  obtain ⟨a, e, h1⟩ := h
  exact ⟨a, e, k _ _ ⟨_, .inr rfl⟩ h1⟩
theorem AroundAt.kp {H H' : Hp} {v : V} {n : Int} {ts : List Tie} (h : AroundAt H v n ts) (k : ∀ b o, (∃ xs, o = .lst xs ∨ o = .tup xs) → H b = some o → H' b = some o) : AroundAt H' v n ts := by
  obtain ⟨L, As, e, l, A⟩ := h
  exact ⟨L, As, e, l, k _ _ ⟨_, .inl rfl⟩ A.at', A.nd, fun j a e => by
    obtain ⟨vs, h1, h2⟩ := A.each j a e
    exact ⟨vs, k _ _ ⟨_, .inl rfl⟩ h1, Paired.mono (fun _ _ x => x.kp k) h2⟩, A.out⟩
/-- lists and tuples stay -/
def KLT (H H' : Hp) : Prop := ∀ b o, (∃ xs, o = .lst xs ∨ o = .tup xs) → H b = some o → H' b = some o
theorem KLT.same {H H1 H2 : Hp} (k : KLT H H1) (s : Same H1 H2) : KLT H H2 := fun b o h e => s b o (k b o h e)
theorem KLT.kt {Ps : List Addr} {H H1 H2 : Hp} (k : KLT H H1) (s : Kt Ps H1 H2) (t : Tabs Ps H1) : KLT H H2 := fun b o h e => by
  obtain ⟨xs, h | h⟩ := h
  · rw [h] at e ⊢
    exact s.lst t (k b _ ⟨xs, .inl rfl⟩ e)
  · rw [h] at e ⊢
    exact s.tup t (k b _ ⟨xs, .inr rfl⟩ e)
theorem KLT.mut {H H1 : Hp} {l : Addr} {o : HO} (k : KLT H H1) (n : H l = none) : KLT H (upd H1 l o) := fun b o' h e => by
  rw [upd_ne (ne_of_none e n)]
  exact k b o' h e
theorem ps_never {X : Cx} {st : Stmt} : PS X st (fun _ _ _ => False) := ⟨fun _ _ _ _ _ _ h => h.elim⟩
def oddP (ts : List Tie) (P : List Int) : Prop := ¬ ∃ c, badF ts c (tiesIn ts P) = []
theorem part_is {ts : List Tie} {n : Nat} {P : List Int} (h : P ∈ partsTo ts n n) : ∃ s, (0 ≤ s ∧ s < (n : Int)) ∧ P = partOf ts n s := by
  obtain ⟨s, hs, rfl⟩ := List.mem_map.mp h
  exact ⟨s, mem_rng.mp (List.mem_filter.mp hs).1, rfl⟩
theorem part_rch {ts : List Tie} {n : Nat} {P : List Int} (h : P ∈ partsTo ts n n) {x y : Int} (hx : x ∈ P) (hy : y ∈ P) : Rch ts x y := by
  obtain ⟨s, _, rfl⟩ := part_is h
  exact (mem_part.mp hx).2.symm.trans (mem_part.mp hy).2
theorem part_ne {ts : List Tie} {n : Nat} {P : List Int} (h : P ∈ partsTo ts n n) : P ≠ [] := fun z => by
  obtain ⟨s, hs, e⟩ := part_is h
  have : s ∈ partOf ts n s := mem_part.mpr ⟨hs, Rch.refl⟩
  rw [← e, z] at this
  cases this
theorem part_rng {ts : List Tie} {n : Nat} {P : List Int} (h : P ∈ partsTo ts n n) : ∀ p ∈ P, 0 ≤ p ∧ p < (n : Int) := fun p hp => by
  obtain ⟨s, _, rfl⟩ := part_is h
  exact (mem_part.mp hp).1
theorem part_pw {ts : List Tie} {n : Nat} {P : List Int} (h : P ∈ partsTo ts n n) : P.Pairwise (· < ·) := by
  obtain ⟨s, _, rfl⟩ := part_is h
  exact part_rising ts n s
theorem none_in {ts : List Tie} {P : List Int} {c : Int → Bool} (h : badF ts c (tiesIn ts P) = []) : ∀ t ∈ ts, t.one ∈ P → brkF c t = false := fun t ht hp => by
  obtain ⟨i, hi⟩ := List.getElem?_of_mem ht
  have il := (List.getElem?_eq_some_iff.mp hi).1
  have et := tieAt_of hi
  cases hb : brkF c t with
  | false => rfl
  | true =>
    have : (i : Int) ∈ badF ts c (tiesIn ts P) := List.mem_filter.mpr ⟨tiesIn_mem.mpr ⟨⟨by omega, by omega⟩, by rw [et]; exact hp⟩, by rw [et]; exact hb⟩
    rw [h] at this
    cases this
theorem walk_in {ts : List Tie} {P : List Int} {c : Int → Bool} (cl : ∀ t ∈ ts, t.one ∈ P ↔ t.other ∈ P) (h : ∀ t ∈ ts, t.one ∈ P → brkF c t = false) {x y : Int} {p : Bool} (r : RP ts x y p) (hx : x ∈ P) : (c x ^^ c y) = p ∧ y ∈ P := by
  induction r with
  | nil => exact ⟨by cases c x <;> rfl, hx⟩
  | step r ad ih =>
    obtain ⟨i1, i2⟩ := ih
    obtain ⟨t, ht, rfl, e⟩ := ad
    rcases e with ⟨rfl, rfl⟩ | ⟨rfl, rfl⟩
    · have hb := h t ht i2
      refine ⟨?_, (cl t ht).mp i2⟩
      rw [← i1]
      unfold brkF at hb
      revert hb
      cases c x <;> cases c t.one <;> cases c t.other <;> cases t.foe <;> decide
    · have h1 := (cl t ht).mpr i2
      have hb := h t ht h1
      refine ⟨?_, h1⟩
      rw [← i1]
      unfold brkF at hb
      revert hb
      cases c x <;> cases c t.one <;> cases c t.other <;> cases t.foe <;> decide
/-- a part and its ties, as they lie in the heap -/
def RowQ (H : Hp) (ts : List Tie) (v : V) (P : List Int) : Prop := ∃ a p t, v = .ref a ∧ H a = some (.tup [.ref p, .ref t]) ∧ NoD H p (P.map V.int) ∧ H t = some (.tup ((tiesIn ts P).map V.int))
theorem RowQ.tk {H H' : Hp} (k : Tk H H') {ts : List Tie} {v : V} {P : List Int} (h : RowQ H ts v P) : RowQ H' ts v P := by
  obtain ⟨a, p, t, e, h1, h2, h3⟩ := h
  exact ⟨a, p, t, e, k _ _ h1, h2.tk k, k _ _ h3⟩
theorem rowsQ_tk {H H' : Hp} (k : Tk H H') {ts : List Tie} {vs : List V} {Ps : List (List Int)} (h : Paired (RowQ H ts) vs Ps) : Paired (RowQ H' ts) vs Ps := Paired.mono (fun _ _ x => x.tk k) h
open Classical in
noncomputable def oddF (ts : List Tie) (P : List Int) : Bool := decide (oddP ts P)
theorem sideI_eq (x y : Bool) : decide (sideI x = sideI y) = (x == y) := by cases x <;> cases y <;> rfl
def spBreaksD : Sp := fun vs H Q _ => ∃ (a b : Addr) (ks : List Nb) (t : Tie) (x y : Bool), vs = [.ref a, .ref b] ∧ H a = some (.dK (kvOf ks)) ∧ (ks.map (·.1)).Nodup ∧ (t.one, x) ∈ ks ∧ (t.other, y) ∈ ks ∧ H b = some (.tup [.int t.one, .int t.other, .str (kindS t.foe)]) ∧ Q (.bl ((x == y) == t.foe)) H
def spTiesWithin : Sp := fun vs H Q _ => ∃ (wv : V) (p : Addr) (n : Int) (ts : List Tie) (P : List Int), vs = [wv, .ref p] ∧ WebAt H wv n ts ∧ WebOk n ts ∧ NoD H p (P.map V.int) ∧ ∀ r H', Same H H' → H' r = some (.tup ((tiesIn ts P).map V.int)) → Q (.ref r) H'
def spOddParts (Ps : List Addr) : Sp := fun vs H Q _ => ∃ (wv : V) (n : Nat) (ts : List Tie), vs = [wv] ∧ WebAt H wv n ts ∧ WebOk n ts ∧ Tabs Ps H ∧
  ∀ L rows H', Kt Ps H H' → H L = none → H' L = some (.lst rows) → Paired (RowQ H' ts) rows ((partsTo ts n n).filter (oddF ts)) → Q (.ref L) H'
/-- where no part with an odd ring is great: never refused -/
def spSmallOdd (Ps : List Addr) : Sp := fun vs H Q _ => ∃ (wv : V) (n : Nat) (ts : List Tie), vs = [wv] ∧ WebAt H wv n ts ∧ WebOk n ts ∧ (∀ P ∈ partsTo ts n n, oddF ts P = true → P.length ≤ 8) ∧ Tabs Ps H ∧
  ∀ L rows H', Kt Ps H H' → H L = none → H' L = some (.lst rows) → Paired (RowQ H' ts) rows ((partsTo ts n n).filter (oddF ts)) → Q (.ref L) H'
def tiesTo (ts : List Tie) (P : List Int) (k : Nat) : List Int := (rng k).filter fun e => decide ((tieAt ts e).one ∈ P)
theorem tiesTo_succ (ts : List Tie) (P : List Int) (k : Nat) : tiesTo ts P (k + 1) = tiesTo ts P k ++ (if (tieAt ts k).one ∈ P then [(k : Int)] else []) := by
  unfold tiesTo
  rw [rng_succ, List.filter_append]
  congr 1
  by_cases h : (tieAt ts (k : Int)).one ∈ P
  · rw [if_pos h, List.filter_cons_of_pos (by exact decide_eq_true h)]
    rfl
  · rw [if_neg h, List.filter_cons_of_neg (by simpa using h)]
    rfl
theorem tiesTo_len (ts : List Tie) (P : List Int) (k : Nat) : (tiesTo ts P k).length ≤ k := by
  have := List.length_filter_le (fun e => decide ((tieAt ts e).one ∈ P)) (rng k)
  rw [rng_length] at this
  exact this
theorem tiesIn_len (ts : List Tie) (P : List Int) : (tiesIn ts P).length ≤ ts.length := tiesTo_len ts P ts.length
section
variable {P : Program} {w : World} {K : PySem.W.Frag} {mg : Str → Option Value} {base : Heap}
set_option maxHeartbeats 4000000 in
theorem ok_ties_within {f : Addr} {fd : FuncData} (F : Fun K "ties_within" "ties_within" s_ties_within f fd) (M : Free mg) (m_enumerate : mg "enumerate" = none) : FnOk P w K mg base CX0 1 f fd ["web", "part"] spTiesWithin := by
  refine F.ok sc_ties_within (fun vs H Q E h => ?_) (fun cdv A outer s H vs Q E hr h => ?_)
  · obtain ⟨wv, p, n, ts, P, rfl, _⟩ := h
    rfl
  · obtain ⟨wv, p, n, ts, P, rfl, hW, ok, hp0, q⟩ := h
    refine ⟨_, (pss_one (ps_ret (pe_callTy call_tuple_of (by rfl) M.tuple (by decide +kernel) (pa_cons (pe_lc (own := [("number", 2), ("tie", 3)]) (g := (gTup K 2 (gCons (gName 2) (gCons (gName 3) gNil)))) (te := tVar 2) rfl sc_ties_within.nd (pi_enumT (by rfl) m_enumerate (pa_cons (pe_ix ix_tup (pv 0) pe_int (fun _ _ => rfl)) pa_nil)) (blkOk_by (N := N_ties_within) (sc := defScope s_ties_within) (own := [("number", 2), ("tie", 3)]) (by decide +kernel)) (fun _ _ _ _ _ => (pg_tup rfl (pgs_cons (pg_name (i := 2) sc_ties_within.nd rfl (.inl rfl)) (pgs_cons (pg_name (i := 3) sc_ties_within.nd rfl (.inl rfl)) pgs_nil)))) (fun _ _ _ _ _ => (pts_one (pt_cmpR (r := rIn K false) op_in_seq (pe_ix (r := rIxT K) ix_tup (pv 3) pe_int (fun _ _ => rfl)) (pv 1) rfl))) (fun _ _ _ _ _ => (pv 2))) pa_nil)))), ?_⟩
    obtain ⟨wa, wb, us, rfl, hwa, hwb, hp⟩ := hW
    have hlen : us.length = ts.length := Paired.length hp
    have few := ok.few
    refine ⟨.ref wa, rfl, wa, _, 1, .ref wb, rfl, rfl, SqT.of hwa, rfl, wb, us, rfl, SqT.of hwb, fun Z nZ => ?_⟩
    refine lc_it (walk_enumT (xs := us)) (fun i H' => H' Z = some (.lst ((tiesTo ts P i).map V.int)) ∧ Same H H') ⟨upd_same, same_new nZ⟩ (fun i H' _ h => SqT.of (h.2 _ _ hwb)) ?_ ?_
    · rintro i x H1 H2 hi ⟨hZ, s1⟩ ⟨T, x1, y, rfl, nT, rfl, e1, e2⟩
      obtain rfl : V.int (i : Nat) = x1 := Option.some.inj e1
      obtain ⟨t, et, c, rfl, hc⟩ := Paired.at hp e2
      have s2 := s1.trans (same_new (o := .tup [.int (i : Nat), .ref c]) nT)
      have hZ2 := same_new (o := .tup [.int (i : Nat), .ref c]) nT _ _ hZ
      refine ⟨T, _, rfl, SqT.of upd_same, rfl, _, _, rfl, _, _, rfl, rfl, rfl, .ref c, rfl, c, _, 0, _, rfl, rfl, SqT.of (s2 _ _ hc), rfl, .ref p, rfl, p, _, rfl, .inr (hp0.same s2).sq, rfl, flat_ints _, _, rfl, ?_⟩
      have et2 := tieAt_of et
      have lb := tiesTo_len ts P i
      rw [tiesTo_succ, et2, List.map_append, in_ints]
      cases hb : P.contains t.one with
      | true =>
        rw [if_pos (List.contains_iff_mem.mp hb)]
        exact ⟨.int i, rfl, _, hZ2, by rw [List.length_map]; exact small1000 (by omega), upd_same, fun b o e => by rw [upd_ne (ne_of_none e nZ)]; exact s2 b o e⟩
      | false =>
        rw [if_neg (fun z => by rw [List.contains_iff_mem.mpr z] at hb; cases hb), List.map_nil, List.append_nil]
        exact ⟨hZ2, s2⟩
    · rintro H1 ⟨hZ, s1⟩
      rw [hlen] at hZ
      refine ⟨Z, _, rfl, .inl ⟨SqL.of hZ, fun r nr => ?_⟩⟩
      exact q r _ (s1.trans (same_new nr)) upd_same
theorem ok_breaks {f : Addr} {fd : FuncData} (F : Fun K "breaks" "breaks" s_breaks f fd)  : FnOk P w K mg base CX0 1 f fd ["sides", "tie"] spBreaksD := by
  refine F.ok sc_breaks (fun vs H Q E h => ?_) (fun cdv A outer s H vs Q E hr h => ?_)
  · obtain ⟨a, b, ks, t, x, y, rfl, _⟩ := h
    rfl
  · obtain ⟨a, b, ks, t, x, y, rfl, ha, nd, hx, hy, hb, q⟩ := h
    have hu := room1 hr
    refine ⟨_, (pss_cons (ps_asg (pv 1) (pg_tup rfl (pgs_cons (pg_name (i := 2) sc_breaks.nd rfl (.inl rfl)) (pgs_cons (pg_name (i := 3) sc_breaks.nd rfl (.inl rfl)) (pgs_cons (pg_name (i := 4) sc_breaks.nd rfl (.inl rfl)) pgs_nil)))))
      (pss_one (ps_ret (pe_cmpR op_eq (pe_cmpR op_eq (pe_dget hu (pv 0) (pv 2) (fun _ _ => rfl)) (pe_dget hu (pv 0) (pv 3) (fun _ _ => rfl)) (nomark _)) (pe_cmpR op_eq (pv 4) pe_str (nomark _)) (nomark _))))), ?_⟩
    have g1 : DGet H a (.int t.one) (some (.int (sideI x))) := by
      rw [← kvOf_some nd hx]
      exact DGet.k (k := Sum.inl t.one) ha
    have g2 : DGet H a (.int t.other) (some (.int (sideI y))) := by
      rw [← kvOf_some nd hy]
      exact DGet.k (k := Sum.inl t.other) ha
    refine ⟨.ref b, rfl, b, _, rfl, SqT.of hb, rfl, _, _, rfl, _, _, rfl, _, _, rfl, rfl, ?_⟩
    refine ⟨.ref a, rfl, .int t.one, rfl, a, _, rfl, g1, .ref a, rfl, .int t.other, rfl, a, _, rfl, g2, rfl, .str (kindS t.foe), rfl, rfl, rfl, ?_⟩
    rw [eq_brk, sideI_eq]
    exact q
set_option maxHeartbeats 8000000 in
theorem ok_odd_parts {f c Pt : Addr} {fd : FuncData} {Ps : List Addr} (F : FunC K "odd_parts" "odd_parts" s_odd_parts f fd c) (TB : GxR.TabB base mg c Pt) (hPt : Pt ∈ Ps) (m_any : mg "any" = none) (D_neighbours : Df P w K mg base 1 "neighbours" ["web"] spNeighbours) (D_parts_of : Df P w K mg base 2 "parts_of" ["web"] spPartsOf) (D_ties_within : Df P w K mg base 1 "ties_within" ["web", "part"] spTiesWithin) (D_sides_from : Df P w K mg base 1 "sides_from" ["start", "around"] spSidesFrom) (D_breaks : Df P w K mg base 1 "breaks" ["sides", "tie"] spBreaksD) : FnOk P w K mg base CX0 4 f fd ["web"] (spOddParts Ps) := by
  obtain ⟨f_neighbours, fd_neighbours, G_neighbours, g_neighbours, k_neighbours, b_neighbours⟩ := D_neighbours
  obtain ⟨f_parts_of, fd_parts_of, G_parts_of, g_parts_of, k_parts_of, b_parts_of⟩ := D_parts_of
  obtain ⟨f_ties_within, fd_ties_within, G_ties_within, g_ties_within, k_ties_within, b_ties_within⟩ := D_ties_within
  obtain ⟨f_sides_from, fd_sides_from, G_sides_from, g_sides_from, k_sides_from, b_sides_from⟩ := D_sides_from
  obtain ⟨f_breaks, fd_breaks, G_breaks, g_breaks, k_breaks, b_breaks⟩ := D_breaks
  refine F.ok sc_odd_parts (fun vs H Q E h => ?_) (fun A outer s H vs Q E hr h => ?_)
  · obtain ⟨wv, n, ts, rfl, _⟩ := h
    rfl
  · obtain ⟨wv, n, ts, rfl, hW, ok, hT, q⟩ := h
    refine ⟨_, (pss_cons (ps_set (i := 1) sc_odd_parts.nd rfl (.inl rfl) (pe_call G_neighbours (hr.mono (by decide)) (by rfl) g_neighbours k_neighbours b_neighbours .nil pass0 (pa_cons (pv 0) pa_nil)))
      (pss_cons (ps_set (i := 2) sc_odd_parts.nd rfl (.inl rfl) (pe_lst pa_nil))
      (pss_cons (ps_for PassesOwn.never rfl (pi_tup (pe_call G_parts_of (hr.mono (by decide)) (by rfl) g_parts_of k_parts_of b_parts_of .nil pass0 (pa_cons (pv 0) pa_nil))) (pg_name (i := 3) sc_odd_parts.nd rfl (.inl rfl))
        (pss_cons (ps_set (i := 4) sc_odd_parts.nd rfl (.inl rfl) (pe_call G_ties_within (hr.mono (by decide)) (by rfl) g_ties_within k_ties_within b_ties_within .nil pass0 (pa_cons (pv 0) (pa_cons (pv 3) pa_nil))))
        (pss_cons (ps_set (i := 5) sc_odd_parts.nd rfl (.inr rfl) (pe_call G_sides_from (hr.mono (by decide)) (by rfl) g_sides_from k_sides_from b_sides_from .nil pass0 (pa_cons (pe_ix ix_tup (pv 3) pe_int (fun _ _ => rfl)) (pa_cons (pv 1) pa_nil))))
        (pss_one (ps_if (pt_val (pe_any (k := 2) (own := [("tie", 6)]) (g := gName 6) hr TB rfl rfl sc_odd_parts.nd (by rfl) m_any (pi_tup (pv 4)) (blkOk_by (N := N_odd_parts) (sc := defScope s_odd_parts) (own := [("tie", 6)]) (by decide +kernel)) ⟨rfl, by decide +kernel, by decide +kernel⟩ (show (".0" : Str) ∉ N_odd_parts by decide +kernel) (fun _ _ _ _ _ _ _ => (pg_name (i := 6) sc_odd_parts.nd rfl (.inl rfl))) (fun _ _ _ _ _ _ _ hr' => (pe_call G_breaks (hr'.mono (by decide)) (by rfl) g_breaks k_breaks b_breaks .nil pass0 (pa_cons (pv 5) (pa_cons (pe_ix (r := rIxT K) ix_tup (pe_ix (r := rIxT K) ix_tup (pv 0) pe_int (fun _ _ => rfl)) (pv 6) (fun _ _ => rfl)) pa_nil))))))
          (pss_one (ps_expr (pe_bm PySem.F.plainAttrs_list PySem.F.slot_list_append PySem.F.type_list_append mt_append (pv 2) (pa_cons (pe_tup (pa_cons (pv 3) (pa_cons (pv 4) pa_nil))) pa_nil))))
          pss_nil)))))
      (pss_one (ps_ret (pv 2)))))), ?_⟩
    obtain ⟨wa, wb, us, rfl, hwa, hwb, hp⟩ := id hW
    have lus : us.length = ts.length := Paired.length hp
    have few := ok.few
    have pt := parts_of_web ok.ok
    refine ⟨.ref wa, rfl, .ref wa, n, ts, rfl, hW, ok, fun av H1 hA s1 => ?_⟩
    refine ⟨Nat.zero_le _, fun L nL => ?_⟩
    have s2 := same_new (o := .lst []) nL
    have hL := upd_same (H := H1) (a := L) (o := .lst [])
    have nL0 := s1.free nL
    have kl2 : KLT H1 (upd H1 L (.lst [])) := KLT.same (fun _ _ _ e => e) s2
    have nL1 := nL
    have k2 := Kt.same hT (s1.trans s2)
    generalize upd H1 L (.lst []) = H2 at s2 hL kl2 k2
    have T2 := k2.tab
    clear s1 s2 nL
    have hW2 := hW.tk (k2.tk hT)
    refine ⟨.ref wa, rfl, .ref wa, n, ts, rfl, hW2, ok, fun pv' H3 s3 hP => ?_⟩
    obtain ⟨pa, bs, rfl, hpa, hbs⟩ := hP
    have lpt := partsTo_len ts n n
    have hi40 := ok.hi
    have lbs := Paired.length hbs
    refine ⟨pa, rfl, ⟨_, SqT.of hpa⟩, ?_⟩
    have k3 := k2.trans (Kt.same T2 s3)
    have T3 := k3.tab
    have hL3 := s3 _ _ hL
    have kl3 := kl2.same s3
    refine for_tup (xs := bs) (fun i σ' H' => ∃ (y3 y4 y5 y6 : Option V) (rows : List V), σ' = [some (.ref wa), some av, some (.ref L), y3, y4, y5, y6] ∧ Kt Ps H H' ∧ KLT H1 H' ∧ H' pa = some (.tup bs) ∧ Paired (IntsV H') bs (partsTo ts n n) ∧ H' L = some (.lst rows) ∧ Paired (RowQ H' ts) rows (((partsTo ts n n).take i).filter (oddF ts))) ⟨none, none, none, none, [], rfl, k3, kl3, hpa, hbs, hL3, .nil⟩ (fun i σ' H' _ h => by
      obtain ⟨_, _, _, _, _, _, _, _, h, _⟩ := h
      exact SqT.of h) ?_ ?_
    · clear hL hL3 kl2 kl3 k2 k3 T2 T3 hpa hbs hW2
      rintro i x σ' H4 ex ⟨y3, y4, y5, y6, rows, rfl, k4, kl4, hpa, hbs, hL, hrows⟩
      have T4 := k4.tab
      have hW4 := hW.tk (k4.tk hT)
      obtain ⟨Pt', ePt, p, rfl, hpp⟩ := Paired.at hbs ex
      have hPm := List.mem_of_getElem? ePt
      refine ⟨.ref wa, rfl, .ref p, rfl, .ref wa, p, n, ts, Pt', rfl, hW4, ok, hpp, fun t H5 s5 ht => ?_⟩
      obtain ⟨p0, P', hP0⟩ := List.exists_cons_of_ne_nil (part_ne hPm)
      have p0m : p0 ∈ Pt' := by rw [hP0]; exact List.mem_cons_self
      have p0r := part_rng hPm p0 p0m
      have at0 : atI (Pt'.map V.int) 0 = some (.int p0) := by rw [hP0]; exact atI_nat (j := 0) rfl
      refine ⟨.ref p, rfl, p, _, 0, .int p0, rfl, rfl, (hpp.same s5).sq, at0, av, rfl, av, n, p0, ts, rfl, hA.kp (kl4.same s5), ok, p0r.1, p0r.2, fun d ks H6 nd hd s6 hS => ?_⟩
      have s46 := s5.trans s6
      have k6 := k4.trans (Kt.same T4 s46)
      have T6 := k6.tab
      have kl6 := kl4.same s46
      have hpa6 := s46 _ _ hpa
      have hbs6 := parts_tk (Same.tk s46) hbs
      have hL6 := s46 _ _ hL
      have hrows6 := rowsQ_tk (Same.tk s46) hrows
      have hpp6 := hpp.same s46
      have ht6 := s6 _ _ ht
      have dL : d ≠ L := fun z => by rw [z] at nd; rw [s5 _ _ hL] at nd; cases nd
      clear kl4 hpa hbs hL hrows hpp ht s5 s6 s46 k4 T4 hW4
      have key : ∀ e ∈ tiesIn ts Pt', ∃ x y, ((tieAt ts e).one, x) ∈ ks ∧ ((tieAt ts e).other, y) ∈ ks := fun e he => by
        have cl := tiesIn_cl pt hPm e he
        have h1 := (hS.all (tieAt ts e).one).mpr (part_rch hPm p0m cl.1)
        have h2 := (hS.all (tieAt ts e).other).mpr (part_rch hPm p0m cl.2)
        obtain ⟨⟨a1, x⟩, m1, e1⟩ := List.mem_map.mp h1
        obtain ⟨⟨a2, y⟩, m2, e2⟩ := List.mem_map.mp h2
        exact ⟨x, y, by rw [← e1]; exact m1, by rw [← e2]; exact m2⟩
      have c0 : ∃ c : Int → Bool, ∀ e ∈ tiesIn ts Pt', ∀ x y, ((tieAt ts e).one, x) ∈ ks → ((tieAt ts e).other, y) ∈ ks → ((x == y) == (tieAt ts e).foe) = brkF c (tieAt ts e) := by
        refine ⟨fun p => decide ((p, true) ∈ ks), fun e he x y hx hy => ?_⟩
        have uni : ∀ {p : Int} {b : Bool}, (p, b) ∈ ks → decide ((p, true) ∈ ks) = b := fun {p b} h => by
          cases b with
          | true => exact decide_eq_true h
          | false =>
            refine decide_eq_false fun h2 => ?_
            have e1 := kvOf_some hS.nd h
            have e2 := kvOf_some hS.nd h2
            rw [e1] at e2
            cases e2
        unfold brkF
        dsimp only
        rw [uni hx, uni hy]
      obtain ⟨c, hc⟩ := c0
      have isodd : (∃ e ∈ tiesIn ts Pt', brkF c (tieAt ts e) = true) → oddF ts Pt' = true := fun ⟨e, he, hb⟩ => by
        refine @decide_eq_true _ (_) fun ⟨c', hn⟩ => ?_
        obtain ⟨x, y, hx, hy⟩ := key e he
        have h0 := none_in hn
        have w1 : (c' p0 ^^ c' (tieAt ts e).one) = x := (walk_in (pt.cl Pt' hPm) h0 (hS.rp _ hx) p0m).1
        have w2 : (c' p0 ^^ c' (tieAt ts e).other) = y := (walk_in (pt.cl Pt' hPm) h0 (hS.rp _ hy) p0m).1
        have hb' := h0 (tieAt ts e) (tieAt_mem (mem_rng.mpr (tiesIn_mem.mp he).1)) (tiesIn_cl pt hPm e he).1
        rw [← hc e he x y hx hy] at hb
        rw [← w1, ← w2] at hb
        unfold brkF at hb'
        revert hb hb'
        show _ → _ → False
        cases c' p0 <;> cases c' (tieAt ts e).one <;> cases c' (tieAt ts e).other <;> cases (tieAt ts e).foe <;> decide
      have iseven : (∀ e ∈ tiesIn ts Pt', brkF c (tieAt ts e) = false) → oddF ts Pt' = false := fun h => by
        refine @decide_eq_false _ (_) fun z => z ⟨c, ?_⟩
        unfold badF
        refine List.filter_eq_nil_iff.mpr fun e he => ?_
        rw [h e he]
        exact Bool.false_ne_true
      have il := (List.getElem?_eq_some_iff.mp ePt).1
      have ltk : ((partsTo ts n n).take i).length ≤ 40 := by rw [List.length_take]; omega
      have lrows : rows.length ≤ 40 := by
        have h1 := Paired.length hrows6
        have h2 := List.length_filter_le (oddF ts) ((partsTo ts n n).take i)
        omega
      have lt := tiesIn_len ts Pt'
      refine ⟨.ref t, rfl, t, rfl, ⟨_, SqT.of ht6⟩, T6 Pt hPt, fun j m H' => j + m = (tiesIn ts Pt').length ∧ Kt Ps H6 H' ∧ ∀ e ∈ (tiesIn ts Pt').take j, brkF c (tieAt ts e) = false, fun H7 hH7 => ⟨(tiesIn ts Pt').length, by omega, Kt.tabbed T6 hPt hH7, fun e he => by rw [List.take_zero] at he; cases he⟩, fun j m H' hw => ?_⟩
      obtain ⟨em, kt, hal⟩ := hw
      have ht' := kt.tup T6 ht6
      by_cases hj : j < (tiesIn ts Pt').length
      · refine .inr ⟨⟨_, _, SqT.of ht', List.getElem?_eq_getElem (by rw [List.length_map]; exact hj)⟩, fun H3 => Kt Ps H6 H3 ∧ ∀ e ∈ (tiesIn ts Pt').take (j + 1), brkF c (tieAt ts e) = false, fun H3 n3 => ⟨m - 1, by omega, by omega, n3.1, n3.2⟩, fun x H7 hy => ?_⟩
        obtain ⟨rfl, fy⟩ := hy
        have ex : ((tiesIn ts Pt').map V.int)[j]? = some x := fy _ (SqT.of ht')
        have ee : (tiesIn ts Pt')[j]? = some (tiesIn ts Pt')[j] := List.getElem?_eq_getElem hj
        rw [List.getElem?_map, ee] at ex
        cases ex
        have em' := List.mem_of_getElem? ee
        generalize (tiesIn ts Pt')[j] = e at ee em'
        have er := (tiesIn_mem.mp em').1
        obtain ⟨x, y, hx, hy⟩ := key e em'
        have k7 := k6.trans kt
        have hwa7 := k7.tup hT hwa
        have hwb7 := k7.tup hT hwb
        obtain ⟨ut, eut, euo⟩ := getI (xs := us) er.1 (by omega)
        obtain ⟨t', et', cc, rfl, hcc⟩ := Paired.at hp euo
        have ett : tieAt ts e = t' := by
          have := tieAt_of et'
          rw [Int.toNat_of_nonneg er.1] at this
          exact this
        rw [← ett] at hcc
        refine ⟨rfl, .ref d, rfl, .ref wa, rfl, wa, _, 1, .ref wb, rfl, rfl, SqT.of hwa7, rfl, .int e, rfl, wb, us, e, .ref cc, rfl, rfl, SqT.of hwb7, eut, d, cc, ks, tieAt ts e, x, y, rfl, kt.dct T6 hd, hS.nd, hx, hy, k7.tup hT hcc, _, rfl, ?_⟩
        rw [hc e em' x y hx hy]
        cases hb : brkF c (tieAt ts e) with
        | false =>
          rw [if_pos rfl]
          refine ⟨kt, fun e' he' => ?_⟩
          rw [List.take_add_one, ee] at he'
          rcases List.mem_append.mp he' with z | z
          · exact hal e' z
          · have z : e' = e := by simpa using z
            rw [z]
            exact hb
        | true =>
          rw [if_neg Bool.noConfusion]
          have od := isodd ⟨e, em', hb⟩
          have T7 := k7.tab
          refine ⟨_, rfl, ?_⟩
          refine ⟨.ref L, rfl, .inl ⟨rfl, _, SqL.of (kt.lst T6 hL6)⟩, .ref p, rfl, .ref t, rfl, by show 2 ≤ sizeLine; decide, fun r nr => ?_⟩
          have s8 := same_new (o := .tup [.ref p, .ref t]) nr
          have hr8 := upd_same (H := H7) (a := r) (o := .tup [.ref p, .ref t])
          have kt8 := kt.trans (Kt.same kt.tab s8)
          generalize upd H7 r (.tup [.ref p, .ref t]) = H8 at s8 hr8 kt8
          have hL8 := kt8.lst T6 hL6
          refine ⟨L, rows, .ref r, rfl, rfl, hL8, small1000 (by omega), ?_⟩
          have tkL := tk_lst (ys := rows ++ [.ref r]) hL8
          have tk8 := kt8.tk T6
          have k9 : Kt Ps H (upd H8 L (.lst (rows ++ [.ref r]))) := (k6.trans kt8).mutN hT nL0
          refine ⟨_, _, _, _, _, rfl, k9, (kl6.kt kt8 T6).mut nL1, tkL _ _ (tk8 _ _ hpa6), parts_tk tkL (parts_tk tk8 hbs6), upd_same, ?_⟩
          · rw [List.take_add_one, ePt, List.filter_append]
            have e1 : [Pt'].filter (oddF ts) = [Pt'] := List.filter_cons_of_pos od
            show Paired _ _ (_ ++ [Pt'].filter (oddF ts))
            rw [e1]
            exact Paired.snoc (rowsQ_tk tkL (rowsQ_tk tk8 hrows6)) ⟨r, p, t, rfl, tkL _ _ hr8, (hpp6.tk tk8).tk tkL, tkL _ _ (tk8 _ _ ht6)⟩
      · refine .inl ⟨⟨_, SqT.of ht', by rw [List.length_map]; omega⟩, _, rfl, ?_⟩
        rw [List.take_of_length_le (by omega)] at hal
        have od := iseven hal
        have tk := kt.tk T6
        refine ⟨_, _, _, _, rows, rfl, k6.trans kt, kl6.kt kt T6, tk _ _ hpa6, parts_tk tk hbs6, kt.lst T6 hL6, ?_⟩
        · rw [List.take_add_one, ePt, List.filter_append]
          have e1 : [Pt'].filter (oddF ts) = [] := List.filter_cons_of_neg (by rw [od]; exact Bool.false_ne_true)
          show Paired _ _ (_ ++ [Pt'].filter (oddF ts))
          rw [e1, List.append_nil]
          exact rowsQ_tk tk hrows6
    · rintro σ' H4 ⟨y3, y4, y5, y6, rows, rfl, k4, _, _, _, hL4, hrows⟩
      have lb2 : bs.length = (partsTo ts n n).length := lbs
      rw [lb2, List.take_length] at hrows
      exact ⟨.ref L, rfl, q L rows H4 k4 nL0 hL4 hrows⟩
end
/-! ### list.extend with a tuple; the least of a list of pairs of a number and a row -/
section
open PySem.AutoSeq1
set_option maxRecDepth 8000 in
theorem ext_tup (l : Addr) (items : Array Value) (n : Nat) (b : Addr) (items2 : Array Value) (n2 : Nat) (dc : Option Addr) (sl : Array (Option Value)) (hs0 : ¬(!items.isEmpty && Builtin.List.listTooLong (items.size + items2.size)) = true) (hs1 : items.size ≤ sizeLine) (hs2 : items.size + items2.size ≤ sizeLine + 1) :
    Meets (Builtin.«list.extend» ⟨[.ref l, .ref b], []⟩) (fun _ R s => s.heap.get? l = some { cls := .type "list", dict := none, data := .seq items n, slots := #[] } ∧ s.heap.get? b = some { cls := .type "tuple", dict := dc, data := .seq items2 n2, slots := sl } ∧ R (.ok (.ret Value.none)) { s with heap := s.heap.update l (Obj.mapSeq fun x => x ++ items2), toks := s.toks }) :=
  .of_wp fun prog w A R s h => by
    obtain ⟨hp, g, d, tk, os⟩ := s; obtain ⟨hl, hb, h⟩ := h; have f1 := idx_int; have f2 := AutoSeq1.sub_tuple_tuple; have f3 := AutoSeq1.sub_list_list; have f4 := AutoSeq1.sub_tuple_list; have f5 := AutoSeq1.sub_list_tuple;
    have hz' : (items ++ items2).size ≤ sizeLine + 1 := by rw [Array.size_append]; exact hs2
    wp_walk using (wpAny_updateSeq hl rfl (hz := hs1) (_hz' := hz')), AutoSeq1.wpAny_loadPart' hl, AutoSeq1.wpAny_loadPart' hb; exact ⟨_, rfl, h⟩
end
def rExtendT (K : PySem.W.Frag) : V → List V → Hp → VK → Prop := fun x vs H Q => ∃ l b xs zs, x = .ref l ∧ vs = [.ref b] ∧ H l = some (.lst xs) ∧ SqT K H b zs ∧ xs.length + zs.length ≤ sizeLine ∧ Q .non (upd H l (.lst (xs ++ zs)))
theorem mt_extendT {X : Cx} : MtM X "list.extend" (rExtendT X.K) := by
  intro pins s σ H x vs v us Q I rx rv h
  obtain ⟨l, b, xs, zs, rfl, rfl, hH, hB, hz, q⟩ := h
  cases rx
  obtain ⟨u, rfl, ru⟩ := rv.one
  cases ru
  obtain ⟨z, its, n, r, hl, e⟩ := I.lstM hH
  obtain ⟨its2, r2, ⟨⟨cl, dc, da, sl⟩, e2, ec, n2, ed⟩, hl2⟩ := I.tuple hB
  have ec : cl = .type "tuple" := ec
  have ed : da = .seq its2.toArray n2 := ed
  subst ec ed
  have l2 := r2.length
  have hsz : its.toArray.size + its2.toArray.size ≤ sizeLine := by rw [List.size_toArray, List.size_toArray]; omega
  have hlong : ¬ (!its.toArray.isEmpty && Builtin.List.listTooLong (its.toArray.size + its2.toArray.size)) = true := by
    rw [notLongL hsz, Bool.and_false]
    exact Bool.false_ne_true
  refine call_meets F.slot_list_extend ⟨_, e, rfl⟩ F.entry_list_extend (F.args_list_extend_2 _ _)
    (ext_tup l its.toArray n b its2.toArray n2 dc sl hlong (by rw [List.size_toArray]; omega) (by omega)) ⟨e, e2, ?_⟩
  refine ⟨.non, _, I.lset (its' := its ++ its2) hH e (by simp) (r.append r2) ?_, rfl, q⟩
  rw [List.length_append]
  omega
def WLV (H : Hp) (v : V) (q : WL) : Prop := ∃ a b, v = .ref a ∧ H a = some (.tup [.int q.1, .ref b]) ∧ H b = some (.tup (q.2.map V.int))
theorem WLV.tk {H H' : Hp} (k : Tk H H') {v : V} {q : WL} (h : WLV H v q) : WLV H' v q := by
  obtain ⟨a, b, e, h1, h2⟩ := h
  exact ⟨a, b, e, k _ _ h1, k _ _ h2⟩
theorem wls_tk {H H' : Hp} (k : Tk H H') {vs : List V} {qs : List WL} (h : Paired (WLV H) vs qs) : Paired (WLV H') vs qs := Paired.mono (fun _ _ x => x.tk k) h
abbrev WT := Int × PySem.W.Tup Int
def wT (q : WL) : WT := (q.1, ⟨q.2⟩)
theorem listLt_ltL : ∀ xs ys : List Int, PySem.W.listLt xs ys = ltL xs ys
  | [], [] => rfl
  | [], _ :: _ => rfl
  | _ :: _, [] => rfl
  | x :: xs, y :: ys => by
    show (if x = y then PySem.W.listLt xs ys else decide (x < y)) = (if x = y then ltL xs ys else decide (x < y))
    rw [listLt_ltL xs ys]
theorem wT_lt (p q : WL) : PySem.W.DatumOrd.lt (wT p) (wT q) = ltW p q := by
  show (if p.1 = q.1 then PySem.W.listLt p.2 q.2 else decide (p.1 < q.1)) = ltW p q
  rw [listLt_ltL]
  rfl
theorem minW_spec : ∀ (ps : List WL) (p : WL), ∃ m ∈ p :: ps, PySem.W.minOf (wT p) (ps.map wT) = wT m ∧ ∀ q ∈ p :: ps, ltW q m = false
  | [], p => ⟨p, by simp, rfl, fun q hq => by
      rw [List.mem_singleton.mp hq]
      cases h : ltW p p with
      | false => rfl
      | true => rw [ltW_asym h] at h; exact h.symm⟩
  | x :: ps, p => by
    have e : PySem.W.minOf (wT p) ((x :: ps).map wT) = PySem.W.minOf (if PySem.W.DatumOrd.lt (wT x) (wT p) = true then wT x else wT p) (ps.map wT) := rfl
    rw [e, wT_lt]
    cases h : ltW x p with
    | true =>
      obtain ⟨m, h1, h2, h3⟩ := minW_spec ps x
      rw [if_pos rfl]
      refine ⟨m, List.mem_cons_of_mem _ h1, h2, fun q hq => ?_⟩
      rcases List.mem_cons.mp hq with z | z
      · rw [z]
        exact ltW_trans (h3 x (by simp)) (ltW_asym h)
      · exact h3 q z
    | false =>
      obtain ⟨m, h1, h2, h3⟩ := minW_spec ps p
      rw [if_neg Bool.false_ne_true]
      refine ⟨m, ?_, h2, fun q hq => ?_⟩
      · rcases List.mem_cons.mp h1 with z | z
        · rw [z]
          simp
        · exact List.mem_cons_of_mem _ (List.mem_cons_of_mem _ z)
      · rcases List.mem_cons.mp hq with z | z
        · rw [z]
          exact h3 p (by simp)
        · rcases List.mem_cons.mp z with y | y
          · rw [y]
            exact ltW_trans (h3 p (by simp)) h
          · exact h3 q (List.mem_cons_of_mem _ y)
def pW (q : WL) : PyData := .tuple [.int q.1, .tuple (q.2.map .int)]
theorem dp_wls {K : PySem.W.Frag} {H : Hp} : ∀ {xs : List V} {ps : List WL}, Paired (WLV H) xs ps → DpAll K H xs (ps.map pW)
  | _, _, .nil => .nil
  | _, _, .cons r t => by
    obtain ⟨a, b, rfl, e, e2⟩ := r
    exact .cons (.tup (SqT.of e) (.cons (.int _) (.cons (.tup (SqT.of e2) (dp_ints _)) .nil))) (dp_wls t)
theorem deep_wls : ∀ ps : List WL, PyData.depthAll (ps.map pW) ≤ 2
  | [] => by simp [PyData.depthAll]
  | p :: ps => by
    have h := deep_wls ps
    have g : (pW p).depth = 2 := by simp [pW, PyData.depth, PyData.depthAll, deep_ints]
    rw [List.map_cons, PyData.depthAll, g]
    omega
theorem pW_inj {p q : WL} (h : pW p = pW q) : p = q := by
  unfold pW at h
  injection h with h
  injection h with h1 h2
  injection h1 with h1
  injection h2 with h2 _
  injection h2 with h2
  exact Prod.ext h1 (List.map_inj_right (f := PyData.int) (fun a b e => by injection e) |>.mp h2)
def rMinW (K : PySem.W.Frag) : List V → Hp → VK → Prop := fun vs H Q => ∃ (a : Addr) (xs : List V) (ps : List WL), vs = [V.ref a] ∧ SqL K H a xs ∧ Paired (WLV H) xs ps ∧ ps ≠ [] ∧ ∀ x p, WLV H x p → p ∈ ps → (∀ q ∈ ps, ltW q p = false) → Q x H
theorem cr_minW {X : Cx} (hc : X.calm = true) (hu : X.A.units + 65 < cLine) : CallR X (.builtin "min") (rMinW X.K) := by
  intro pins s σ H vs us Q I r h
  obtain ⟨a, xs, ps, rfl, hs, hp, hne, q⟩ := h
  obtain ⟨its, rv, hl, _⟩ := I.list hs
  rw [Vals.ref1 r]
  obtain ⟨p0, ps', rfl⟩ := List.exists_cons_of_ne_nil hne
  obtain ⟨as, hr⟩ := Dp.readsAll I _ _ _ (dp_wls (K := X.K) hp) rv
  have hr' : ReadsAll s.heap its.toArray.toList (pW p0 :: ps'.map pW) as := hr
  have md : (p0 :: ps').map pW = ((p0 :: ps').map wT).map PySem.W.Datum.toD := by rw [List.map_map]; rfl
  refine PySem.W.min_list_data (I.ok.hd hc) hl.isList hr' (by have := PySem.W.alikeAll_datum ((p0 :: ps').map wT); rw [← md] at this; exact this) (by have := deep_wls (p0 :: ps'); rw [List.map_cons] at this; omega) fun i v h' tk bs hv rd hk => ?_
  obtain ⟨m, m1, m2, m3⟩ := minW_spec ps' p0
  have em : PySem.W.minD (pW p0) (ps'.map pW) = pW m := by
    have e1 : ps'.map pW = (ps'.map wT).map PySem.W.Datum.toD := by rw [List.map_map]; rfl
    have e2 := PySem.W.minD_map (wT p0) (ps'.map wT)
    rw [m2, ← e1] at e2
    exact e2
  rw [em] at rd
  have hv' : its[i]? = some v := by simpa using hv
  obtain ⟨x, ex, rx⟩ := Paired.at' rv hv'
  obtain ⟨p, ep, t, b, rfl, ht, hb⟩ := Paired.at hp ex
  obtain ⟨cs, rd2, _⟩ := PySem.W.readsAll_atA hr' i v hv
  have eg : (pW p0 :: ps'.map pW).getD i .none = pW p := by
    have : ((p0 :: ps').map pW)[i]? = some (pW p) := by rw [List.getElem?_map, ep]; rfl
    rw [List.getD_eq_getElem?_getD]
    rw [List.map_cons] at this
    rw [this]
    rfl
  rw [eg] at rd2
  have lay : (pW p).canLay0 = true := by simp [pW, PyData.canLay0, PyData.canLayAll0, lay_ints]
  have eq := PySem.SeqAt.Reads.unique _ _ _ _ _ lay (PySem.W.reads_keeps hk rd2) rd
  have ep2 : p = m := pW_inj eq
  exact ⟨.ref t, H, I.kept hk, rx, q _ p ⟨t, b, rfl, ht, hb⟩ (List.mem_of_getElem? ep) (by rw [ep2]; exact m3)⟩
theorem room65 {k : Nat} {A : PySem.Around} (r : Room k A) : A.units + 65 < cLine := by have := r.un; omega
/-! ### least mends: no part too great; all sides -/
def DKV (H : Hp) (v : V) (ks : List Nb) : Prop := ∃ a, v = .ref a ∧ H a = some (.dK (kvOf ks))
theorem DKV.same {H H' : Hp} (s : Same H H') {v : V} {ks : List Nb} (h : DKV H v ks) : DKV H' v ks := by
  obtain ⟨a, e, h⟩ := h
  exact ⟨a, e, s _ _ h⟩
theorem DKV.lst {H : Hp} {L : Addr} {xs ys : List V} (hL : H L = some (.lst xs)) {v : V} {ks : List Nb} (h : DKV H v ks) : DKV (upd H L (.lst ys)) v ks := by
  obtain ⟨a, e, h⟩ := h
  refine ⟨a, e, ?_⟩
  rw [upd_ne (fun z => by rw [z, hL] at h; cases h)]
  exact h
theorem dks_same {H H' : Hp} (s : Same H H') {vs : List V} {css : List (List Nb)} (h : Paired (DKV H) vs css) : Paired (DKV H') vs css := Paired.mono (fun _ _ x => x.same s) h
theorem dks_lst {H : Hp} {L : Addr} {xs ys : List V} (hL : H L = some (.lst xs)) {vs : List V} {css : List (List Nb)} (h : Paired (DKV H) vs css) : Paired (DKV (upd H L (.lst ys))) vs css := Paired.mono (fun _ _ x => x.lst hL) h
def two (p : Int) (ks : List Nb) : List (List Nb) := [ks ++ [(p, false)], ks ++ [(p, true)]]
def chF (css : List (List Nb)) (P : List Int) : List (List Nb) := P.foldl (fun css p => css.flatMap (two p)) css
theorem chF_keys : ∀ (P B : List Int) (css : List (List Nb)), (∀ ks ∈ css, ks.map (·.1) = B) → ∀ ks ∈ chF css P, ks.map (·.1) = B ++ P
  | [], B, css, h => fun ks hk => by rw [List.append_nil]; exact h ks hk
  | p :: P, B, css, h => fun ks hk => by
    have := chF_keys P (B ++ [p]) (css.flatMap (two p)) (fun ks hk => by
      obtain ⟨k0, h0, h1⟩ := List.mem_flatMap.mp hk
      unfold two at h1
      rcases List.mem_cons.mp h1 with rfl | h1
      · rw [List.map_append, h k0 h0]; rfl
      · rw [List.mem_singleton.mp h1, List.map_append, h k0 h0]; rfl) ks hk
    rw [this, List.append_assoc]
    rfl
theorem chF_cov (c : Int → Bool) : ∀ (P B : List Int) (css : List (List Nb)), B.map (fun p => (p, c p)) ∈ css → (B ++ P).map (fun p => (p, c p)) ∈ chF css P
  | [], B, css, h => by rw [List.append_nil]; exact h
  | p :: P, B, css, h => by
    have := chF_cov c P (B ++ [p]) (css.flatMap (two p)) (List.mem_flatMap.mpr ⟨_, h, by
      rw [List.map_append]
      unfold two
      cases hc : c p with
      | false => exact List.mem_cons.mpr (.inl (by simp [hc]))
      | true => exact List.mem_cons_of_mem _ (List.mem_singleton.mpr (by simp [hc]))⟩)
    rw [List.append_assoc] at this
    exact this
theorem chF_len : ∀ (P : List Int) (css : List (List Nb)), (chF css P).length = css.length * 2 ^ P.length
  | [], css => by simp [chF]
  | p :: P, css => by
    have h := chF_len P (css.flatMap (two p))
    have e : (css.flatMap (two p)).length = css.length * 2 := by
      rw [List.length_flatMap, show (fun ks : List Nb => (two p ks).length) = fun _ => 2 from rfl]
      clear h
      induction css with
      | nil => rfl
      | cons k css ih => rw [List.map_cons, List.sum_cons, ih, List.length_cons]; omega
    rw [e] at h
    show (chF (css.flatMap (two p)) P).length = _
    rw [h, List.length_cons, Nat.pow_succ, Nat.mul_assoc, Nat.mul_comm 2]
theorem chF_snoc (css : List (List Nb)) (P : List Int) (p : Int) : chF css (P ++ [p]) = (chF css P).flatMap (two p) := by
  unfold chF
  rw [List.foldl_append]
  rfl
theorem kvOf_merge : ∀ (bs as : List Nb), ((as ++ bs).map (·.1)).Nodup → mergeK (kvOf as) (kvOf bs) = kvOf (as ++ bs)
  | [], as, _ => by rw [List.append_nil]; rfl
  | (z, b) :: bs, as, nd => by
    have e : as ++ (z, b) :: bs = (as ++ [(z, b)]) ++ bs := by rw [List.append_assoc]; rfl
    have n1 : z ∉ as.map (·.1) := by
      rw [List.map_append, List.nodup_append] at nd
      exact fun h => nd.2.2 z h z (by simp) rfl
    show mergeK (putK (kvOf as) (Sum.inl z) (.int (sideI b))) (kvOf bs) = _
    rw [kvOf_put n1, kvOf_merge bs _ (by rw [← e]; exact nd), e]
def rLen38 (K : PySem.W.Frag) : List V → Hp → VK → Prop := fun xs H Q => ∃ p ys, xs = [V.ref p] ∧ (SqL K H p ys ∨ SqT K H p ys) ∧ Q (V.int (ys.length : Nat)) H
def spAllSides : Sp := fun vs H Q _ => ∃ (p : Addr) (p0 : Int) (P : List Int), vs = [.ref p] ∧ NoD H p ((p0 :: P).map V.int) ∧ (p0 :: P).Nodup ∧ P.length ≤ 7 ∧ ∀ L ds H', Same H H' → H L = none → H' L = some (.lst ds) → Paired (DKV H') ds (chF [[(p0, false)]] P) → Q (.ref L) H'
section
variable {P : Program} {w : World} {K : PySem.W.Frag} {mg : Str → Option Value} {base : Heap}
theorem ok_small_odd_parts {f c Pt : Addr} {fd : FuncData} {tm : Tok} {Ps : List Addr} (F : FunC K "small_odd_parts" "small_odd_parts" s_small_odd_parts f fd c) (TB : GxR.TabB base mg c Pt) (hPt : Pt ∈ Ps) (M : Free mg) (m_any : mg "any" = none) (gM : mg "MOST_PLACES" = some (.int 8 tm)) (D_odd_parts : Df P w K mg base 4 "odd_parts" ["web"] (spOddParts Ps)) : FnOk P w K mg base CX0 6 f fd ["web"] (spSmallOdd Ps) := by
  obtain ⟨f_odd_parts, fd_odd_parts, G_odd_parts, g_odd_parts, k_odd_parts, b_odd_parts⟩ := D_odd_parts
  refine F.ok sc_small_odd_parts (fun vs H Q E h => ?_) (fun A outer s H vs Q E hr h => ?_)
  · obtain ⟨wv, n, ts, rfl, _⟩ := h
    rfl
  · obtain ⟨wv, n, ts, rfl, hW, ok, hb, hT, q⟩ := h
    refine ⟨_, (pss_cons (ps_set (i := 1) sc_small_odd_parts.nd rfl (.inl rfl) (pe_call G_odd_parts (hr.mono (by decide)) (by rfl) g_odd_parts k_odd_parts b_odd_parts .nil pass0 (pa_cons (pv 0) pa_nil)))
      (pss_cons (ps_if (pt_val (pe_any (k := 4) (own := [("part", 2), ("ties", 3)]) (g := gTup K 2 (gCons (gName 2) (gCons (gName 3) gNil))) hr TB rfl rfl sc_small_odd_parts.nd (by rfl) m_any (pi_list (pv 1)) (blkOk_by (N := N_small_odd_parts) (sc := defScope s_small_odd_parts) (own := [("part", 2), ("ties", 3)]) (by decide +kernel)) ⟨rfl, by decide +kernel, by decide +kernel⟩ (show (".0" : Str) ∉ N_small_odd_parts by decide +kernel) (fun _ _ _ _ _ _ _ => (pg_tup rfl (pgs_cons (pg_name (i := 2) sc_small_odd_parts.nd rfl (.inl rfl)) (pgs_cons (pg_name (i := 3) sc_small_odd_parts.nd rfl (.inl rfl)) pgs_nil))))
          (fun _ _ _ _ _ _ _ hr' => (pe_cmpR op_gt (pe_callB (r := rLen38 K) call_len_seq (by rfl) M.len PySem.boot_len (pa_cons (pv 2) pa_nil)) (pe_glob (v := .int 8) rfl gM ⟨_, rfl⟩) (nomark _)))))
        (pss_one ps_never) pss_nil)
      (pss_one (ps_ret (pv 1))))), ?_⟩
    refine ⟨wv, rfl, wv, n, ts, rfl, hW, ok, hT, fun L rows H1 k1 nL hL hrows => ?_⟩
    have T1 := k1.tab
    have lpt := partsTo_len ts n n
    have hi40 := ok.hi
    refine ⟨.ref L, rfl, L, rfl, ⟨_, SqL.of hL⟩, T1 Pt hPt, fun j m H' => j + m = rows.length ∧ Kt Ps H1 H', fun H7 hH7 => ⟨rows.length, by omega, Kt.tabbed T1 hPt hH7⟩, fun j m H' hw => ?_⟩
    obtain ⟨em, kt⟩ := hw
    have hL' := kt.lst T1 hL
    by_cases hj : j < rows.length
    · refine .inr ⟨⟨_, _, SqL.of hL', List.getElem?_eq_getElem hj⟩, fun H3 => Kt Ps H1 H3, fun H3 n3 => ⟨m - 1, by omega, by omega, n3⟩, fun x H7 hy => ?_⟩
      obtain ⟨rfl, fy⟩ := hy
      have ex : rows[j]? = some x := fy _ (SqL.of hL')
      have hrows' := rowsQ_tk (kt.tk T1) hrows
      obtain ⟨P', eP, a, p, t, rfl, ha, hp, ht⟩ := Paired.at hrows' ex
      obtain ⟨hPm, od⟩ := List.mem_filter.mp (List.mem_of_getElem? eP)
      have l8 := hb P' hPm od
      refine ⟨a, _, rfl, SqT.of ha, rfl, _, _, rfl, _, _, rfl, rfl, rfl, .ref p, rfl, p, _, rfl, .inr hp.sq, _, 8, rfl, rfl, _, rfl, ?_⟩
      rw [decide_eq_false (show ¬ (8 : Int) < ((P'.map V.int).length : Nat) by rw [List.length_map]; omega), if_pos rfl]
      exact kt
    · refine .inl ⟨⟨_, SqL.of hL', by omega⟩, ?_⟩
      refine ⟨_, rfl, ?_⟩
      exact ⟨.ref L, rfl, q L rows _ (k1.trans kt) nL hL' (rowsQ_tk (kt.tk T1) hrows)⟩
end
section
variable {P : Program} {w : World} {K : PySem.W.Frag} {mg : Str → Option Value} {base : Heap}
set_option maxHeartbeats 4000000 in
theorem ok_all_sides {f : Addr} {fd : FuncData} (F : Fun K "all_sides" "all_sides" s_all_sides f fd)  : FnOk P w K mg base CX0 1 f fd ["part"] spAllSides := by
  refine F.ok sc_all_sides (fun vs H Q E h => ?_) (fun cdv A outer s H vs Q E hr h => ?_)
  · obtain ⟨p, p0, P, rfl, _⟩ := h
    rfl
  · obtain ⟨p, p0, P, rfl, hp, nd, l7, q⟩ := h
    have hu := room1 hr
    refine ⟨_, (pss_cons (ps_set (i := 1) sc_all_sides.nd rfl (.inl rfl) (pe_lst (pa_cons (pe_disp (pps_cons (pe_ix ix_tup (pv 0) pe_int (fun _ _ => rfl)) pe_int pps_nil) (by rfl) (by rfl) (fun z => by cases z) (by decide)) pa_nil)))
      (pss_cons (ps_for PassesOwn.never rfl (pi_tup (pe_slice sl_tup (pv 0) (po_some pe_int) po_none)) (pg_name (i := 2) sc_all_sides.nd rfl (.inr rfl))
        (pss_one (ps_setLc2 (i := 1) (own := [("sides", 3), ("side", 4)]) (vs1 := [4]) (wi1 := iTup K (tTup (tCons (tC (.int 0)) (tCons (tC (.int 1)) tNil)))) (g := gName 3) (tt := tYes) (g1 := gName 4) (tt1 := tYes) (te := tDStar (tVar 3) (tVar 2) (tVar 4)) rfl sc_all_sides.nd rfl rfl (sw_true rfl rfl rfl (by decide +kernel)) (pi_list (pv 1)) (blkOk_by (N := N_all_sides) (sc := defScope s_all_sides) (own := [("sides", 3), ("side", 4)]) (by decide +kernel)) (by decide)
          (fun _ _ _ _ _ => (pg_name (i := 3) sc_all_sides.nd rfl (.inl rfl))) (fun _ _ _ _ _ => pts_nil) (fun _ _ _ _ _ => pi_tup (pe_tup (pa_cons pe_int (pa_cons pe_int pa_nil)))) (fun _ _ _ _ _ => (pg_name (i := 4) sc_all_sides.nd rfl (.inl rfl))) (fun _ _ _ _ _ => pts_nil) (fun _ _ _ _ _ => pe_dstar (pv 3) (pv 2) (pv 4)))))
      (pss_one (ps_ret (pv 1))))), ?_⟩
    refine fun d nd0 => ⟨.ref p, rfl, p, _, 0, .int p0, rfl, rfl, (hp.same (same_new nd0)).sq, by rw [List.map_cons]; exact atI_nat (j := 0) rfl, upd_same, [(Sum.inl p0, .int 0)], rfl, by show 1 ≤ 15; decide, ?_⟩
    have s1 : Same H (upd (upd H d (.dK [])) d (.dK (mergeK [] [(Sum.inl p0, V.int 0)]))) := fun b o e => by rw [upd_ne (ne_of_none e nd0), upd_ne (ne_of_none e nd0)]; exact e
    have hd1 : (upd (upd H d (.dK [])) d (.dK (mergeK [] [(Sum.inl p0, V.int 0)]))) d = some (.dK (kvOf [(p0, false)])) := upd_same
    generalize (upd (upd H d (.dK [])) d (.dK (mergeK [] [(Sum.inl p0, V.int 0)]))) = H1 at s1 hd1
    refine ⟨by show 1 ≤ sizeLine; decide, fun L nL => ?_⟩
    have s2 := s1.trans (same_new (o := .lst [.ref d]) nL)
    have hL2 := upd_same (H := H1) (a := L) (o := .lst [.ref d])
    have hd2 := same_new (o := .lst [.ref d]) nL _ _ hd1
    have nL0 := s1.free nL
    generalize upd H1 L (.lst [.ref d]) = H2 at s2 hL2 hd2
    refine ⟨.ref p, rfl, 1, rfl, p, _, rfl, (hp.same s2).sq, (by simp [HT.sIx]), fun sa nsa => ?_⟩
    have s3 := same_new (o := .tup (cutV ((p0 :: P).map V.int) (some 1) none)) nsa
    have hsa := upd_same (H := H2) (a := sa) (o := .tup (cutV ((p0 :: P).map V.int) (some 1) none))
    generalize upd H2 sa (.tup (cutV ((p0 :: P).map V.int) (some 1) none)) = H3 at s3 hsa
    have ecut : cutV ((p0 :: P).map V.int) (some 1) none = P.map V.int := by
      unfold cutV
      simp [HT.sIx]
      rw [show P.length = (P.map V.int).length by rw [List.length_map], List.take_length]
    rw [ecut] at hsa
    refine ⟨sa, rfl, ⟨_, SqT.of hsa⟩, ?_⟩
    refine for_tup (xs := P.map V.int) (fun i σ' H' => ∃ (y2 : Option V) (L : Addr) (ds : List V), σ' = [some (.ref p), some (.ref L), y2, none, none] ∧ Same H H' ∧ H L = none ∧ H' L = some (.lst ds) ∧ Paired (DKV H') ds (chF [[(p0, false)]] (P.take i)) ∧ H' sa = some (.tup (P.map V.int))) ⟨none, L, [.ref d], rfl, s2.trans s3, nL0, s3 _ _ hL2, .cons ⟨d, rfl, s3 _ _ hd2⟩ .nil, hsa⟩ (fun i σ' H' _ h => by
      obtain ⟨_, _, _, _, _, _, _, _, h⟩ := h
      exact SqT.of h) ?_ ?_
    · clear s1 hd1 nL nL0 s2 hL2 hd2 s3 hsa
      rintro i x σ' H4 ex ⟨y2, L, ds, rfl, s4, nL, hL, hds, hsa⟩
      obtain ⟨pl, epl, rfl⟩ : ∃ pl, P[i]? = some pl ∧ x = .int pl := by
        rw [List.getElem?_map] at ex
        cases hP : P[i]? with
        | none => rw [hP] at ex; cases ex
        | some pl => rw [hP] at ex; exact ⟨pl, rfl, (Option.some.inj ex).symm⟩
      have il := (List.getElem?_eq_some_iff.mp epl).1
      have etk : P.take (i + 1) = P.take i ++ [pl] := by rw [List.take_add_one, epl]; rfl
      have keys := chF_keys (P.take i) [p0] [[(p0, false)]] (fun ks hk => by rw [List.mem_singleton.mp hk]; rfl)
      have clen := chF_len (P.take i) [[(p0, false)]]
      have c64 : (chF [[(p0, false)]] (P.take i)).length ≤ 64 := by
        rw [clen, List.length_take, Nat.min_eq_left (by omega)]
        have : 2 ^ i ≤ 2 ^ 6 := Nat.pow_le_pow_right (by decide) (by omega)
        simpa using this
      generalize hcs : chF [[(p0, false)]] (P.take i) = css at hds keys c64
      have lds : ds.length = css.length := Paired.length hds
      have nin : ∀ ks ∈ css, (ks.map (·.1)).Nodup ∧ pl ∉ ks.map (·.1) ∧ ks.length ≤ 8 := fun ks hk => by
        have e := keys ks hk
        have nd' : ([p0] ++ P.take (i + 1)).Nodup := by
          have h : ([p0] ++ P.take (i + 1)) = (p0 :: P).take (i + 2) := rfl
          rw [h]
          exact nd.sublist (List.take_sublist _ _)
        rw [etk, ← List.append_assoc, List.nodup_append] at nd'
        have l := congrArg List.length e
        rw [List.length_map, List.length_append, List.length_take] at l
        have l1 : ([p0] : List Int).length = 1 := rfl
        exact ⟨by rw [e]; exact nd'.1, by rw [e]; exact fun z => nd'.2.2 pl z pl (by simp) rfl, by omega⟩
      refine ⟨.ref L, rfl, L, rfl, ⟨_, SqL.of hL⟩, fun D nD => ?_⟩
      have nD0 := s4.free nD
      refine ⟨fun j m H' => j + m = css.length ∧ ∃ es, H' D = some (.lst es) ∧ Paired (DKV H') es ((css.take j).flatMap (two pl)) ∧ Same H H' ∧ H' L = some (.lst ds) ∧ Paired (DKV H') ds css ∧ H' sa = some (.tup (P.map V.int)), ⟨css.length, by omega, [], upd_same, .nil, s4.trans (same_new nD), same_new nD _ _ hL, dks_same (same_new nD) hds, same_new nD _ _ hsa⟩, ?_⟩
      rintro j m H5 ⟨em, es, hD5, hes, s5, hL5, hds5, hsa5⟩
      by_cases hj : j < css.length
      · refine .inr ⟨⟨_, _, SqL.of hL5, List.getElem?_eq_getElem (by omega)⟩, fun H' => ∃ es, H' D = some (.lst es) ∧ Paired (DKV H') es ((css.take (j + 1)).flatMap (two pl)) ∧ Same H H' ∧ H' L = some (.lst ds) ∧ Paired (DKV H') ds css ∧ H' sa = some (.tup (P.map V.int)), fun H' n' => ⟨m - 1, by omega, by omega, n'⟩, fun x H6 hy => ?_⟩
        obtain ⟨rfl, fy⟩ := hy
        have ex2 : ds[j]? = some x := fy _ (SqL.of hL5)
        obtain ⟨ks, eks, a, rfl, ha⟩ := Paired.at hds5 ex2
        obtain ⟨nk, npl, lk⟩ := nin ks (List.mem_of_getElem? eks)
        have etk2 : (css.take (j + 1)).flatMap (two pl) = (css.take j).flatMap (two pl) ++ two pl ks := by
          rw [List.take_add_one, eks, List.flatMap_append]
          simp
        have les : es.length ≤ 128 := by
          have h1 := Paired.length hes
          have h2 : ∀ l : List (List Nb), (l.flatMap (two pl)).length = l.length * 2 := fun l => by
            rw [List.length_flatMap, show (fun ks : List Nb => (two pl ks).length) = fun _ => 2 from rfl]
            induction l with
            | nil => rfl
            | cons k css ih => rw [List.map_cons, List.sum_cons, ih, List.length_cons]; omega
          rw [h2, List.length_take] at h1
          omega
        refine ⟨rfl, by show 2 ≤ sizeLine; decide, fun t nt => ⟨t, rfl, ⟨_, SqT.of upd_same⟩, ?_⟩⟩
        have st := same_new (o := .tup [V.int 0, V.int 1]) nt
        refine ⟨fun k m H' => k + m = 2 ∧ ∃ es', H' D = some (.lst es') ∧ Paired (DKV H') es' ((css.take j).flatMap (two pl) ++ (two pl ks).take k) ∧ Same H H' ∧ H' L = some (.lst ds) ∧ Paired (DKV H') ds css ∧ H' sa = some (.tup (P.map V.int)) ∧ H' t = some (.tup [V.int 0, V.int 1]) ∧ H' a = some (.dK (kvOf ks)), ⟨2, rfl, es, st _ _ hD5, by rw [List.take_zero, List.append_nil]; exact dks_same st hes, s5.trans st, st _ _ hL5, dks_same st hds5, st _ _ hsa5, upd_same, st _ _ ha⟩, ?_⟩
        rintro k m6 H6 ⟨ek, es', hD6, hes6, s6, hL6, hds6, hsa6, ht6, ha6⟩
        by_cases hk : k < 2
        · obtain ⟨b, eb⟩ : ∃ b : Bool, [V.int 0, V.int 1][k]? = some (.int (sideI b)) ∧ (two pl ks)[k]? = some (ks ++ [(pl, b)]) := by
            match k, hk with
            | 0, _ => exact ⟨false, rfl, rfl⟩
            | 1, _ => exact ⟨true, rfl, rfl⟩
          refine .inr ⟨⟨_, _, SqT.of ht6, eb.1⟩, fun H' => ∃ es', H' D = some (.lst es') ∧ Paired (DKV H') es' ((css.take j).flatMap (two pl) ++ (two pl ks).take (k + 1)) ∧ Same H H' ∧ H' L = some (.lst ds) ∧ Paired (DKV H') ds css ∧ H' sa = some (.tup (P.map V.int)) ∧ H' t = some (.tup [V.int 0, V.int 1]) ∧ H' a = some (.dK (kvOf ks)), fun H' n' => ⟨m6 - 1, by omega, by omega, n'⟩, fun x H7 hy => ?_⟩
          obtain ⟨rfl, fy⟩ := hy
          have ey : [V.int 0, V.int 1][k]? = some x := fy _ (SqT.of ht6)
          rw [eb.1] at ey
          cases ey
          have les' : es'.length ≤ 130 := by
            have h1 := Paired.length hes6
            have h2 := Paired.length hes
            rw [List.length_append, List.length_take, ← h2] at h1
            have : (two pl ks).length = 2 := rfl
            omega
          refine ⟨rfl, fun d nd => ⟨.ref a, rfl, a, kvOf ks, rfl, ?_, ?_, upd_same, by rw [kvOf_len]; omega, fun r nr => ?_⟩⟩
          · exact same_new nd _ _ ha6
          · intro z
            rw [z, nd] at ha6
            cases ha6
          have em : mergeK [] (kvOf ks) = kvOf ks := kvOf_merge ks [] nk
          rw [em] at nr ⊢
          have dr : d ≠ r := fun z => by rw [z, upd_same] at nr; cases nr
          have nr0 : H7 r = none := by
            rw [upd_ne (Ne.symm dr), upd_ne (Ne.symm dr)] at nr
            exact nr
          refine ⟨.int pl, rfl, .int (sideI b), rfl, Sum.inl pl, kvOf ks, rfl, by rw [upd_ne dr]; exact upd_same, by rw [kvOf_len]; omega, upd_same, dr, ?_⟩
          rw [kvOf_put npl]
          have s7 : Same H7 (upd (upd (upd (upd (upd H7 d (.dK [])) d (.dK (kvOf ks))) r (.dK [])) r (.dK [(Sum.inl pl, .int (sideI b))])) d (.dK (kvOf (ks ++ [(pl, b)])))) := fun q o e => by
            rw [upd_ne (ne_of_none e nd), upd_ne (ne_of_none e nr0), upd_ne (ne_of_none e nr0), upd_ne (ne_of_none e nd), upd_ne (ne_of_none e nd)]
            exact e
          have hd7 : (upd (upd (upd (upd (upd H7 d (.dK [])) d (.dK (kvOf ks))) r (.dK [])) r (.dK [(Sum.inl pl, .int (sideI b))])) d (.dK (kvOf (ks ++ [(pl, b)])))) d = some (.dK (kvOf (ks ++ [(pl, b)]))) := upd_same
          generalize (upd (upd (upd (upd (upd H7 d (.dK [])) d (.dK (kvOf ks))) r (.dK [])) r (.dK [(Sum.inl pl, .int (sideI b))])) d (.dK (kvOf (ks ++ [(pl, b)])))) = H8 at s7 hd7
          have hD8 := s7 _ _ hD6
          have tkL : ∀ b o, (∀ ys, o ≠ .lst ys) → H8 b = some o → upd H8 D (.lst (es' ++ [.ref d])) b = some o := fun b o hne e => by
            rw [upd_ne (fun z => by rw [z, hD8] at e; exact hne _ (Option.some.inj e).symm)]
            exact e
          refine ⟨es', hD8, by show es'.length < sizeLine; exact small1000 (by omega), es' ++ [.ref d], upd_same, ?_, fun b o e => ?_, ?_, dks_lst hD8 (dks_same s7 hds6), tkL _ _ (fun _ z => by cases z) (s7 _ _ hsa6), tkL _ _ (fun _ z => by cases z) (s7 _ _ ht6), tkL _ _ (fun _ z => by cases z) (s7 _ _ ha6)⟩
          · rw [List.take_add_one, eb.2, ← List.append_assoc]
            exact Paired.snoc (dks_lst hD8 (dks_same s7 hes6)) ⟨d, rfl, tkL _ _ (fun _ z => by cases z) hd7⟩
          · rw [upd_ne (ne_of_none e nD0)]
            exact s7 _ _ (s6 _ _ e)
          · rw [upd_ne (fun z => ?_)]
            · exact s7 _ _ hL6
            · rw [z, nD] at hL
              cases hL
        · have e2 : k = 2 := by omega
          subst e2
          refine .inl ⟨⟨_, SqT.of ht6, Nat.le_refl _⟩, es', hD6, ?_, s6, hL6, hds6, hsa6⟩
          rw [etk2]
          exact hes6
      · refine .inl ⟨⟨_, SqL.of hL5, by omega⟩, ?_⟩
        rw [List.take_of_length_le (by omega)] at hes
        refine ⟨_, D, es, rfl, s5, nD0, hD5, ?_, hsa5⟩
        rw [etk, chF_snoc, hcs]
        exact hes
    · rintro σ' H4 ⟨y2, L, ds, rfl, s4, nL, hL, hds, _⟩
      rw [List.length_map, List.take_length] at hds
      exact ⟨.ref L, rfl, q L ds _ s4 nL hL hds⟩
end
/-! ### least mends: the least of a part -/
def cOf (ks : List Nb) : Int → Bool := fun p => decide ((p, true) ∈ ks)
theorem cOf_at {ks : List Nb} (nd : (ks.map (·.1)).Nodup) {p : Int} {b : Bool} (h : (p, b) ∈ ks) : cOf ks p = b := by
  cases b with
  | true => exact decide_eq_true h
  | false =>
    refine decide_eq_false fun h2 => ?_
    have e1 := kvOf_some nd h
    have e2 := kvOf_some nd h2
    rw [e1] at e2
    cases e2
theorem cOf_in {ks : List Nb} {P : List Int} (nd : P.Nodup) (e : ks.map (·.1) = P) {p : Int} (h : p ∈ P) : (p, cOf ks p) ∈ ks := by
  rw [← e] at h nd
  obtain ⟨⟨a, b⟩, m, rfl⟩ := List.mem_map.mp h
  rw [cOf_at nd m]
  exact m
theorem cOf_map {P : List Int} (nd : P.Nodup) (c : Int → Bool) {p : Int} (h : p ∈ P) : cOf (P.map fun p => (p, c p)) p = c p := by
  refine cOf_at ?_ (List.mem_map.mpr ⟨p, h, rfl⟩)
  rw [List.map_map, show (Prod.fst ∘ fun p => (p, c p)) = (id : Int → Int) from rfl, List.map_id]
  exact nd
theorem lex_of_all {ts : List Tie} {g : Int → Int} {es : List Int} {p0 : Int} {P : List Int} (nd : (p0 :: P).Nodup) (cl : ∀ e ∈ es, (tieAt ts e).one ∈ p0 :: P ∧ (tieAt ts e).other ∈ p0 :: P) {x : WL}
    (hx : x ∈ (chF [[(p0, false)]] P).map fun ks => valF ts g (cOf ks) es) (hle : ∀ y ∈ (chF [[(p0, false)]] P).map fun ks => valF ts g (cOf ks) es, ltW y x = false) : LexMin ts g es x := by
  obtain ⟨ks, _, rfl⟩ := List.mem_map.mp hx
  refine ⟨⟨_, rfl⟩, fun d => ?_⟩
  obtain ⟨d', e1, e2⟩ : ∃ d' : Int → Bool, d' p0 = false ∧ badF ts d' es = badF ts d es := by
    cases hd : d p0 with
    | false => exact ⟨d, hd, rfl⟩
    | true => exact ⟨fun p => !d p, by show (!d p0) = false; rw [hd]; rfl, badF_flip ts d es⟩
  have cov := chF_cov d' P [p0] [[(p0, false)]] (by rw [List.map_cons, List.map_nil, e1]; exact List.mem_singleton.mpr rfl)
  have h := hle _ (List.mem_map.mpr ⟨_, cov, rfl⟩)
  have e3 : badF ts (cOf (([p0] ++ P).map fun p => (p, d' p))) es = badF ts d es := by
    rw [← e2]
    exact badF_congr cl fun p hp => cOf_map nd d' hp
  unfold valF at h ⊢
  rw [e3] at h
  exact h
def badF0 (ts : List Tie) (c : Int → Bool) (es : List Int) (k : Nat) : List Int := badF ts c (es.take k)
def spLeastOf (Ps : List Addr) : Sp := fun vs H Q _ => ∃ (wv gv : V) (p t : Addr) (n : Nat) (ts : List Tie) (g : Int → Int) (P : List Int), vs = [wv, gv, .ref p, .ref t] ∧ WebAt H wv n ts ∧ WebOk n ts ∧ P ∈ partsTo ts n n ∧ P.length ≤ 8 ∧ Wts H gv (tiesIn ts P) g ∧ NoD H p (P.map V.int) ∧ H t = some (.tup ((tiesIn ts P).map V.int)) ∧ Tabs Ps H ∧
  ∀ v x H', Kt Ps H H' → WLV H' v x → LexMin ts g (tiesIn ts P) x → Q v H'
theorem Wts.sub {H : Hp} {v : V} {ns ms : List Int} {g : Int → Int} (h : Wts H v ns g) (s : ∀ x ∈ ms, x ∈ ns) : Wts H v ms g := by
  rcases h with ⟨e, h⟩ | ⟨a, ws, e, h1, h2⟩
  · exact .inl ⟨e, fun x hx => h x (s x hx)⟩
  · exact .inr ⟨a, ws, e, h1, fun x hx => h2 x (s x hx)⟩
theorem dks_kt {Ps : List Addr} {H H' : Hp} (k : Kt Ps H H') (T : Tabs Ps H) {vs : List V} {css : List (List Nb)} (h : Paired (DKV H) vs css) : Paired (DKV H') vs css := Paired.mono (fun _ _ ⟨a, e, h⟩ => ⟨a, e, k.dct T h⟩) h
section
variable {P : Program} {w : World} {K : PySem.W.Frag} {mg : Str → Option Value} {base : Heap}
set_option maxHeartbeats 8000000 in
theorem ok_least_of_part {f : Addr} {fd : FuncData} {Ps : List Addr} (F : Fun K "least_of_part" "least_of_part" s_least_of_part f fd) (M : Free mg) (m_min : mg "min" = none) (D_all_sides : Df P w K mg base 1 "all_sides" ["part"] spAllSides) (D_breaks : Df P w K mg base 1 "breaks" ["sides", "tie"] spBreaksD) (D_mend_weight : Df P w K mg base 3 "mend_weight" ["weights", "ties"] (spMend Ps)) : FnOk P w K mg base CX0 4 f fd ["web", "weights", "part", "ties"] (spLeastOf Ps) := by
  obtain ⟨f_all_sides, fd_all_sides, G_all_sides, g_all_sides, k_all_sides, b_all_sides⟩ := D_all_sides
  obtain ⟨f_breaks, fd_breaks, G_breaks, g_breaks, k_breaks, b_breaks⟩ := D_breaks
  obtain ⟨f_mend_weight, fd_mend_weight, G_mend_weight, g_mend_weight, k_mend_weight, b_mend_weight⟩ := D_mend_weight
  refine F.ok sc_least_of_part (fun vs H Q E h => ?_) (fun cdv A outer s H vs Q E hr h => ?_)
  · obtain ⟨wv, gv, p, t, n, ts, g, P, rfl, _⟩ := h
    rfl
  · obtain ⟨wv, gv, p, t, n, ts, g, P, rfl, hW, ok, hPm, l8, hw, hp, ht, hT, q⟩ := h
    refine ⟨_, (pss_cons (ps_set (i := 4) sc_least_of_part.nd rfl (.inl rfl) (pe_lst pa_nil))
      (pss_cons (ps_for PassesOwn.never rfl (pi_list (pe_call G_all_sides (hr.mono (by decide)) (by rfl) g_all_sides k_all_sides b_all_sides .nil pass0 (pa_cons (pv 2) pa_nil))) (pg_name (i := 5) sc_least_of_part.nd rfl (.inr rfl))
        (pss_cons (ps_set (i := 6) sc_least_of_part.nd rfl (.inl rfl) (pe_callTy call_tuple_of (by rfl) M.tuple (by decide +kernel) (pa_cons (pe_lc (own := [("tie", 7)]) (g := (gName 7)) (te := tVar 7) rfl sc_least_of_part.nd (pi_tup (pv 3)) (blkOk_by (N := N_least_of_part) (sc := defScope s_least_of_part) (own := [("tie", 7)]) (by decide +kernel)) (fun _ _ _ _ _ => (pg_name (i := 7) sc_least_of_part.nd rfl (.inl rfl))) (fun _ _ _ _ _ => (pts_one (pt_val (pe_call G_breaks (hr.mono (by decide)) (by rfl) g_breaks k_breaks b_breaks .nil pass0 (pa_cons (pv 5) (pa_cons (pe_ix (r := rIxT K) ix_tup (pe_ix (r := rIxT K) ix_tup (pv 0) pe_int (fun _ _ => rfl)) (pv 7) (fun _ _ => rfl)) pa_nil)))))) (fun _ _ _ _ _ => (pv 7))) pa_nil)))
        (pss_one (ps_expr (pe_bm PySem.F.plainAttrs_list PySem.F.slot_list_append PySem.F.type_list_append mt_append (pv 4) (pa_cons (pe_tup (pa_cons (pe_call G_mend_weight (hr.mono (by decide)) (by rfl) g_mend_weight k_mend_weight b_mend_weight .nil pass0 (pa_cons (pv 1) (pa_cons (pv 6) pa_nil))) (pa_cons (pv 6) pa_nil))) pa_nil))))))
      (pss_one (ps_ret (pe_callB (cr_minW rfl (room65 hr)) (by rfl) m_min (by decide +kernel) (pa_cons (pv 4) pa_nil)))))), ?_⟩
    have pt := parts_of_web ok.ok
    have cl := tiesIn_cl pt hPm
    have nd : P.Nodup := (part_pw hPm).imp fun {a b} h => by omega
    obtain ⟨p0, P', eP⟩ := List.exists_cons_of_ne_nil (part_ne hPm)
    have lt := tiesIn_len ts P
    have few := ok.few
    obtain ⟨wa, wb, us, rfl, hwa, hwb, hpu⟩ := id hW
    have lus : us.length = ts.length := Paired.length hpu
    refine ⟨Nat.zero_le _, fun L nL => ?_⟩
    have s1 := same_new (o := .lst []) nL
    have hL := upd_same (H := H) (a := L) (o := .lst [])
    generalize upd H L (.lst []) = H1 at s1 hL
    have k1 := Kt.same hT s1
    refine ⟨.ref p, rfl, p, p0, P', rfl, by rw [← eP]; exact hp.same s1, by rw [← eP]; exact nd, by rw [eP, List.length_cons] at l8; omega, fun La ds H2 s2 nLa hLa hds => ?_⟩
    have k2 := k1.trans (Kt.same k1.tab s2)
    have T2 := k2.tab
    have LaL : La ≠ L := fun z => by rw [z, hL] at nLa; cases nLa
    refine ⟨La, rfl, ⟨_, SqL.of hLa⟩, ?_⟩
    have ck := chF_keys P' [p0] [[(p0, false)]] (fun ks hk => by rw [List.mem_singleton.mp hk]; rfl)
    have clen := chF_len P' [[(p0, false)]]
    have c128 : (chF [[(p0, false)]] P').length ≤ 128 := by
      rw [clen]
      have h7 : P'.length ≤ 7 := by rw [eP, List.length_cons] at l8; omega
      have : 2 ^ P'.length ≤ 2 ^ 7 := Nat.pow_le_pow_right (by decide) h7
      simpa using this
    have cne : chF [[(p0, false)]] P' ≠ [] := fun z => by
      have := chF_cov (fun _ => false) P' [p0] [[(p0, false)]] (List.mem_singleton.mpr rfl)
      rw [z] at this
      cases this
    have lex := fun x => lex_of_all (x := x) (g := g) (by rw [← eP]; exact nd) (by rw [← eP]; exact cl)
    have ck : ∀ ks ∈ chF [[(p0, false)]] P', ks.map (·.1) = P := fun ks hk => by rw [ck ks hk, eP]; rfl
    generalize chF [[(p0, false)]] P' = css at hds c128 cne lex ck
    have lds : ds.length = css.length := Paired.length hds
    refine for_list (xs := ds) (fun i σ' H' => ∃ (y5 y6 y7 : Option V) (rows : List V), σ' = [some (.ref wa), some gv, some (.ref p), some (.ref t), some (.ref L), y5, y6, y7] ∧ Kt Ps H H' ∧ H' La = some (.lst ds) ∧ Paired (DKV H') ds css ∧ H' L = some (.lst rows) ∧ Paired (WLV H') rows ((css.take i).map fun ks => valF ts g (cOf ks) (tiesIn ts P))) ⟨none, none, none, [], rfl, k2, hLa, hds, s2 _ _ hL, .nil⟩ (fun i σ' H' _ h => by
      obtain ⟨_, _, _, _, _, _, h, _⟩ := h
      exact SqL.of h) ?_ ?_
    · clear hL hLa hds k1 k2 s1 s2 T2
      rintro i x σ' H4 ex ⟨y5, y6, y7, rows, rfl, k4, hLa, hds, hL, hrows⟩
      have T4 := k4.tab
      obtain ⟨ks, eks, a, rfl, ha⟩ := Paired.at hds ex
      have ek := ck ks (List.mem_of_getElem? eks)
      have ndk : (ks.map (·.1)).Nodup := by rw [ek]; exact nd
      have il := (List.getElem?_eq_some_iff.mp eks).1
      refine ⟨.ref t, rfl, t, rfl, ⟨_, SqT.of (k4.tup hT ht)⟩, fun Z nZ => ?_⟩
      refine lc_tup (xs := (tiesIn ts P).map V.int) (fun j H' => H' Z = some (.lst ((badF0 ts (cOf ks) (tiesIn ts P) j).map V.int)) ∧ Same H4 H') ⟨upd_same, same_new nZ⟩ (fun j H' _ h => SqT.of (h.2 _ _ (k4.tup hT ht))) ?_ ?_
      · rintro j x H5 ej ⟨hZ, s5⟩
        obtain ⟨e, ee, rfl⟩ : ∃ e, (tiesIn ts P)[j]? = some e ∧ x = .int e := by
          rw [List.getElem?_map] at ej
          cases hP : (tiesIn ts P)[j]? with
          | none => rw [hP] at ej; cases ej
          | some pl => rw [hP] at ej; exact ⟨pl, rfl, (Option.some.inj ej).symm⟩
        have em := List.mem_of_getElem? ee
        have er := (tiesIn_mem.mp em).1
        have jl := (List.getElem?_eq_some_iff.mp ee).1
        obtain ⟨ut, eut, euo⟩ := getI (xs := us) er.1 (by omega)
        obtain ⟨t', et', cc, rfl, hcc⟩ := Paired.at hpu euo
        have ett : tieAt ts e = t' := by
          have := tieAt_of et'
          rw [Int.toNat_of_nonneg er.1] at this
          exact this
        rw [← ett] at hcc
        have h1 := cOf_in nd ek (cl e em).1
        have h2 := cOf_in nd ek (cl e em).2
        refine ⟨rfl, .ref a, rfl, .ref wa, rfl, wa, _, 1, .ref wb, rfl, rfl, SqT.of (s5 _ _ (k4.tup hT hwa)), rfl, .int e, rfl, wb, us, e, .ref cc, rfl, rfl, SqT.of (s5 _ _ (k4.tup hT hwb)), eut, a, cc, ks, tieAt ts e, _, _, rfl, s5 _ _ ha, ndk, h1, h2, s5 _ _ (k4.tup hT hcc), _, rfl, ?_⟩
        have eb : badF0 ts (cOf ks) (tiesIn ts P) (j + 1) = badF0 ts (cOf ks) (tiesIn ts P) j ++ (if brkF (cOf ks) (tieAt ts e) = true then [e] else []) := by
          unfold badF0 badF
          rw [List.take_add_one, ee, List.filter_append]
          congr 1
          show [e].filter _ = _
          cases hb : brkF (cOf ks) (tieAt ts e) with
          | true => rw [List.filter_cons, hb]; rfl
          | false => rw [List.filter_cons, hb]; rfl
        have lb : (badF0 ts (cOf ks) (tiesIn ts P) j).length ≤ 120 := by
          unfold badF0 badF
          have h1 := List.length_filter_le (fun e => brkF (cOf ks) (tieAt ts e)) ((tiesIn ts P).take j)
          rw [List.length_take] at h1
          omega
        rw [eb]
        show if brkF (cOf ks) (tieAt ts e) = true then _ else _
        cases hb : brkF (cOf ks) (tieAt ts e) with
        | true =>
          rw [if_pos rfl, if_pos rfl]
          refine ⟨.int e, rfl, _, hZ, by rw [List.length_map]; exact small1000 (by omega), ?_, fun b o e => by rw [upd_ne (ne_of_none e nZ)]; exact s5 b o e⟩
          rw [upd_same, List.map_append]
          rfl
        | false =>
          rw [if_neg Bool.false_ne_true, if_neg Bool.false_ne_true, List.append_nil]
          exact ⟨hZ, s5⟩
      · rintro H5 ⟨hZ, s5⟩
        have ebt : badF0 ts (cOf ks) (tiesIn ts P) ((tiesIn ts P).map V.int).length = badF ts (cOf ks) (tiesIn ts P) := by
          unfold badF0
          rw [List.length_map, List.take_length]
        rw [ebt] at hZ
        refine ⟨Z, _, rfl, .inl ⟨SqL.of hZ, fun bt nbt => ?_⟩⟩
        have s6 := s5.trans (same_new (o := .tup ((badF ts (cOf ks) (tiesIn ts P)).map V.int)) nbt)
        have hbt := upd_same (H := H5) (a := bt) (o := .tup ((badF ts (cOf ks) (tiesIn ts P)).map V.int))
        generalize upd H5 bt (.tup ((badF ts (cOf ks) (tiesIn ts P)).map V.int)) = H6 at s6 hbt
        have k6 := k4.trans (Kt.same T4 s6)
        have T6 := k6.tab
        have lrows : rows.length ≤ 128 := by
          have h1 := Paired.length hrows
          rw [List.length_map, List.length_take] at h1
          omega
        refine ⟨.ref L, rfl, .inl ⟨rfl, _, SqL.of (s6 _ _ hL)⟩, gv, rfl, .ref bt, rfl, gv, bt, badF ts (cOf ks) (tiesIn ts P), g, rfl, .inl hbt, (hw.tk (k6.tk hT)).sub (fun x hx => (List.mem_filter.mp hx).1), T6, fun H7 k7 => ?_⟩
        have k7' := k6.trans k7
        have hL7 := k7.lst T6 (s6 _ _ hL)
        refine ⟨.ref bt, rfl, by show 2 ≤ sizeLine; decide, fun r nr => ?_⟩
        have s8 := same_new (o := .tup [.int (sumW g (badF ts (cOf ks) (tiesIn ts P))), .ref bt]) nr
        have hr8 := upd_same (H := H7) (a := r) (o := .tup [.int (sumW g (badF ts (cOf ks) (tiesIn ts P))), .ref bt])
        generalize upd H7 r (.tup [.int (sumW g (badF ts (cOf ks) (tiesIn ts P))), .ref bt]) = H8 at s8 hr8
        have k8 := k7'.trans (Kt.same k7'.tab s8)
        have hL8 := s8 _ _ hL7
        refine ⟨L, rows, .ref r, rfl, rfl, hL8, small1000 (by omega), ?_⟩
        have tkL := tk_lst (ys := rows ++ [.ref r]) hL8
        have kt48 : Kt Ps H4 H8 := (Kt.same T4 s6).trans (k7.trans (Kt.same k7.tab s8))
        refine ⟨_, _, _, _, rfl, k8.mutN hT nL, ?_, dks_lst hL8 (dks_kt kt48 T4 hds), upd_same, ?_⟩
        · rw [upd_ne LaL]
          exact kt48.lst T4 hLa
        · rw [List.take_add_one, eks, List.map_append]
          exact Paired.snoc (wls_tk tkL (wls_tk (kt48.tk T4) hrows)) ⟨r, bt, rfl, tkL _ _ hr8, tkL _ _ (s8 _ _ (k7.tup T6 hbt))⟩
    · rintro σ' H4 ⟨y5, y6, y7, rows, rfl, k4, _, _, hL, hrows⟩
      rw [lds, List.take_length] at hrows
      refine ⟨.ref L, rfl, L, rows, _, rfl, SqL.of hL, hrows, fun z => cne (List.map_eq_nil_iff.mp z), fun x xp hx hm hle => ?_⟩
      exact q x xp H4 k4 hx (lex xp hm hle)
end
/-! ### least mends: the least mend -/
theorem okD {P : Program} {w : World} {K : PySem.W.Frag} {mg : Str → Option Value} {base : Heap} {x qual : Str} {st : Stmt} {f : Addr} {fd : FuncData} {N ps : List Str} {k : Nat} {sp : Sp} {dvs : List V} (F : FunD K x qual (defArgs st) (defBody st) (defScope st) dvs [] f fd) (S : FnScope N ps (defScope st)) (len : ∀ vs H Q E, sp vs H Q E → vs.length = ps.length)
    (hbody : ∀ (cdv : Value) (A : PySem.Around) (outer : List Env) (s : Shared) (H : Hp) (vs : List V) (Q : VK) (E : XK), Room k (A.deeper (envOfC qual (defScope st) s.heap.objs.size f cdv)) → sp vs H Q E →
      ∃ t, PSs (cxOf CX0 P w K mg base N qual (defScope st) f cdv A outer s H E).nox (defBody st) t ∧ t { nx := fun _ H' => Q .non H', rt := Q } (start N vs) H) : FnOk P w K mg base CX0 (k + 1) f fd ps sp :=
  FunD.ok F S len fun cdv A outer s H vs Q E hr hsp => by
    obtain ⟨t, h, q⟩ := hbody cdv A outer s H vs Q E hr hsp
    exact ⟨t, h.nox, q⟩
def spLeastMend (Ps : List Addr) : Sp := fun vs H Q _ => ∃ (wv gv : V) (n : Nat) (ts : List Tie) (g : Int → Int), vs = [wv, gv] ∧ WebAt H wv n ts ∧ WebOk n ts ∧ (∀ P ∈ partsTo ts n n, oddF ts P = true → P.length ≤ 8) ∧ Wts H gv (rng ts.length) g ∧ (∀ e ∈ rng ts.length, 1 ≤ g e) ∧ Tabs Ps H ∧
  ∀ v c xs H', Kt Ps H H' → ToldL ts n g xs c → WLV H' v (sumW g (badF ts c (rng ts.length)), badF ts c (rng ts.length)) → Q v H'
theorem badF_rising (ts : List Tie) (c : Int → Bool) (n : Nat) : (badF ts c (rng n)).Pairwise (· < ·) := (rng_rising n).filter _
theorem rise_of_le {ns ms : List Int} (h : ns.Pairwise (· ≤ ·)) (p : ns.Perm ms) (r : ms.Pairwise (· < ·)) : ns = ms := by
  have nd : ns.Nodup := p.nodup_iff.mpr (r.imp fun {a b} h => by omega)
  have lt : ns.Pairwise (· < ·) := (h.and nd).imp fun {a b} ⟨h1, h2⟩ => by
    have : a ≠ b := h2
    omega
  exact rising_ext lt r fun z => p.mem_iff
section
variable {P : Program} {w : World} {K : PySem.W.Frag} {mg : Str → Option Value} {base : Heap}
set_option maxHeartbeats 8000000 in
theorem ok_least_mend {f : Addr} {fd : FuncData} {Ps : List Addr} (F : FunD K "least_mend" "least_mend" (defArgs s_least_mend) (defBody s_least_mend) (defScope s_least_mend) [.non] [] f fd) (M : Free mg) (m_sorted : mg "sorted" = none) (D_small_odd_parts : Df P w K mg base 6 "small_odd_parts" ["web"] (spSmallOdd Ps)) (D_least_of_part : Df P w K mg base 4 "least_of_part" ["web", "weights", "part", "ties"] (spLeastOf Ps)) (D_mend_weight : Df P w K mg base 3 "mend_weight" ["weights", "ties"] (spMend Ps)) : FnOk P w K mg base CX0 7 f fd ["web", "weights"] (spLeastMend Ps) := by
  obtain ⟨f_small_odd_parts, fd_small_odd_parts, G_small_odd_parts, g_small_odd_parts, k_small_odd_parts, b_small_odd_parts⟩ := D_small_odd_parts
  obtain ⟨f_least_of_part, fd_least_of_part, G_least_of_part, g_least_of_part, k_least_of_part, b_least_of_part⟩ := D_least_of_part
  obtain ⟨f_mend_weight, fd_mend_weight, G_mend_weight, g_mend_weight, k_mend_weight, b_mend_weight⟩ := D_mend_weight
  refine okD F sc_least_mend (fun vs H Q E h => ?_) (fun cdv A outer s H vs Q E hr h => ?_)
  · obtain ⟨wv, gv, n, ts, g, rfl, _⟩ := h
    rfl
  · obtain ⟨wv, gv, n, ts, g, rfl, hW, ok, hb8, hw, gp, hT, q⟩ := h
    refine ⟨_, (pss_cons (ps_set (i := 2) sc_least_mend.nd rfl (.inl rfl) (pe_lst pa_nil))
      (pss_cons (ps_for PassesOwn.never rfl (pi_list (pe_call G_small_odd_parts (hr.mono (by decide)) (by rfl) g_small_odd_parts k_small_odd_parts b_small_odd_parts .nil pass0 (pa_cons (pv 0) pa_nil))) (pg_tup rfl (pgs_cons (pg_name (i := 3) sc_least_mend.nd rfl (.inl rfl)) (pgs_cons (pg_name (i := 4) sc_least_mend.nd rfl (.inl rfl)) pgs_nil)))
        (pss_one (ps_expr (pe_bm PySem.F.plainAttrs_list PySem.F.slot_list_extend PySem.F.type_list_extend mt_extendT (pv 2) (pa_cons (pe_ix ix_tup (pe_call G_least_of_part (hr.mono (by decide)) (by rfl) g_least_of_part k_least_of_part b_least_of_part .nil pass0 (pa_cons (pv 0) (pa_cons (pv 1) (pa_cons (pv 3) (pa_cons (pv 4) pa_nil))))) pe_int (fun _ _ => rfl)) pa_nil)))))
      (pss_one (ps_ret (pe_tup (pa_cons (pe_call G_mend_weight (hr.mono (by decide)) (by rfl) g_mend_weight k_mend_weight b_mend_weight .nil pass0 (pa_cons (pv 1) (pa_cons (pv 2) pa_nil))) (pa_cons (pe_callTy call_tuple_of (by rfl) M.tuple (by decide +kernel) (pa_cons (pe_callB cr_sortedI (by rfl) m_sorted (by decide +kernel) (pa_cons (pv 2) pa_nil)) pa_nil)) pa_nil))))))), ?_⟩
    have pt := parts_of_web ok.ok
    have few := ok.few
    have hi40 := ok.hi
    have lpt := partsTo_len ts n n
    refine ⟨Nat.zero_le _, fun L nL => ?_⟩
    have s1 := same_new (o := .lst []) nL
    have hL := upd_same (H := H) (a := L) (o := .lst [])
    generalize upd H L (.lst []) = H1 at s1 hL
    have k1 := Kt.same hT s1
    refine ⟨wv, rfl, wv, n, ts, rfl, hW.tk (Same.tk s1), ok, hb8, k1.tab, fun R rows H2 k12 nR hR hrows => ?_⟩
    have k2 := k1.trans k12
    have RL : R ≠ L := fun z => by rw [z, hL] at nR; cases nR
    refine ⟨R, rfl, ⟨_, SqL.of hR⟩, ?_⟩
    have lrows := Paired.length hrows
    have lf := List.length_filter_le (oddF ts) (partsTo ts n n)
    refine for_list (xs := rows) (fun i σ' H' => ∃ (y3 y4 : Option V) (ys : List WL), σ' = [some wv, some gv, some (.ref L), y3, y4] ∧ Kt Ps H H' ∧ H' R = some (.lst rows) ∧ Paired (RowQ H' ts) rows ((partsTo ts n n).filter (oddF ts)) ∧ H' L = some (.lst ((ys.flatMap (·.2)).map V.int)) ∧ Paired (fun P x => LexMin ts g (tiesIn ts P) x) (((partsTo ts n n).filter (oddF ts)).take i) ys ∧ (ys.flatMap (·.2)).length ≤ i * 120) ⟨none, none, [], rfl, k2, hR, hrows, k12.lst k1.tab hL, .nil, Nat.le_refl _⟩ (fun i σ' H' _ h => by
      obtain ⟨_, _, _, _, _, h, _⟩ := h
      exact SqL.of h) ?_ ?_
    · clear hL hR hrows k1 k2 s1 k12
      rintro i x σ' H4 ex ⟨y3, y4, ys, rfl, k4, hR, hrows, hL, hys, lys⟩
      have T4 := k4.tab
      obtain ⟨P', eP, a, p, t, rfl, ha, hp, ht⟩ := Paired.at hrows ex
      obtain ⟨hPm, od⟩ := List.mem_filter.mp (List.mem_of_getElem? eP)
      have il := (List.getElem?_eq_some_iff.mp ex).1
      refine ⟨a, _, rfl, SqT.of ha, rfl, _, _, rfl, _, _, rfl, rfl, ?_⟩
      refine ⟨.ref L, rfl, .inl ⟨rfl, _, SqL.of hL⟩, wv, rfl, gv, rfl, .ref p, rfl, .ref t, rfl, wv, gv, p, t, n, ts, g, P', rfl, hW.tk (k4.tk hT), ok, hPm, hb8 P' hPm od, (hw.tk (k4.tk hT)).sub (fun x hx => mem_rng.mpr (tiesIn_mem.mp hx).1), hp, ht, T4, fun v x H5 k45 hv hx => ?_⟩
      obtain ⟨b, z, rfl, hb, hz⟩ := hv
      have k5 := k4.trans k45
      have hL5 := k45.lst T4 hL
      have l120 : x.2.length ≤ 120 := by
        obtain ⟨c, rfl⟩ := hx.ex
        have h1 := List.length_filter_le (fun e => brkF c (tieAt ts e)) (tiesIn ts P')
        have h2 := tiesIn_len ts P'
        show (badF ts c (tiesIn ts P')).length ≤ 120
        unfold badF
        omega
      refine ⟨b, _, 1, .ref z, rfl, rfl, SqT.of hb, rfl, L, z, _, _, rfl, rfl, hL5, SqT.of hz, ?_, ?_⟩
      · rw [List.length_map, List.length_map]
        have : i * 120 ≤ 40 * 120 := Nat.mul_le_mul_right _ (by omega)
        have e : sizeLine = 16777216 := by decide
        omega
      · have tkL := tk_lst (ys := (ys.flatMap (·.2)).map V.int ++ x.2.map V.int) hL5
        refine ⟨_, _, ys ++ [x], rfl, k5.mutN hT nL, ?_, rowsQ_tk tkL (rowsQ_tk (k45.tk T4) hrows), ?_, ?_, ?_⟩
        · rw [upd_ne RL]
          exact k45.lst T4 hR
        · rw [upd_same, List.flatMap_append, List.map_append]
          simp
        · rw [List.take_add_one, eP]
          exact Paired.snoc hys hx
        · rw [List.flatMap_append, List.length_append]
          simp only [List.flatMap_cons, List.flatMap_nil, List.append_nil]
          omega
    · rintro σ' H4 ⟨y3, y4, ys, rfl, k4, _, _, hL, hys, lys⟩
      rw [lrows, List.take_length] at hys
      have T4 := k4.tab
      obtain ⟨xs, hxs, exs⟩ := lex_fill (ts := ts) (g := g) (f := oddF ts) (fun P hP h0 => by
        have ne := @of_decide_eq_false _ (_) h0
        obtain ⟨c, hc⟩ := Classical.not_not.mp ne
        exact LexMin.zero (fun e he => gp e (mem_rng.mpr (tiesIn_mem.mp he).1)) hc) hys
      obtain ⟨c, told⟩ := told_of_lex ok.ok hxs
      have pm : (ys.flatMap (·.2)).Perm (badF ts c (rng ts.length)) := by
        rw [← exs]
        exact told.perm
      refine ⟨gv, rfl, .ref L, rfl, gv, L, ys.flatMap (·.2), g, rfl, .inr hL, (hw.tk (k4.tk hT)).sub (fun x hx => (List.mem_filter.mp (pm.mem_iff.mp hx)).1), T4, fun H5 k45 => ?_⟩
      have k5 := k4.trans k45
      have hL5 := k45.lst T4 hL
      refine ⟨.ref L, rfl, L, _, rfl, SqL.of hL5, fun ns' s5 pn sn ns => ?_⟩
      have en : ns' = badF ts c (rng ts.length) := rise_of_le sn (pn.trans pm) (badF_rising ts c _)
      subst en
      have ss := same_new (o := .lst ((badF ts c (rng ts.length)).map V.int)) ns
      refine ⟨s5, _, rfl, .inl ⟨SqL.of upd_same, fun z nz => ?_⟩⟩
      have s6 := ss.trans (same_new (o := .tup ((badF ts c (rng ts.length)).map V.int)) nz)
      have hz := upd_same (H := upd H5 s5 (.lst ((badF ts c (rng ts.length)).map V.int))) (a := z) (o := .tup ((badF ts c (rng ts.length)).map V.int))
      generalize upd (upd H5 s5 (.lst ((badF ts c (rng ts.length)).map V.int))) z (.tup ((badF ts c (rng ts.length)).map V.int)) = H6 at s6 hz
      refine ⟨by show 2 ≤ sizeLine; decide, fun r nr => ?_⟩
      have s7 := s6.trans (same_new (o := .tup [.int (sumW g (ys.flatMap (·.2))), .ref z]) nr)
      refine q (.ref r) c xs _ (k5.trans (Kt.same k5.tab s7)) told ⟨r, z, rfl, ?_, same_new nr _ _ hz⟩
      rw [upd_same, sumW_perm pm]
end
/-! ### the law's parts: mathematics -/
open Classical in
noncomputable def leftK (ts : List Tie) (n k : Nat) : List Int := (rng n).filter fun p => decide (∀ P ∈ partsTo ts n k, p ∉ P)
theorem mem_leftK {ts : List Tie} {n k : Nat} {p : Int} : p ∈ leftK ts n k ↔ (0 ≤ p ∧ p < n) ∧ ∀ P ∈ partsTo ts n k, p ∉ P := by
  unfold leftK
  rw [List.mem_filter, mem_rng, @decide_eq_true_iff _ (_)]
theorem leftK_rising (ts : List Tie) (n k : Nat) : (leftK ts n k).Pairwise (· < ·) := (rng_rising n).filter _
theorem mem_partsTo {ts : List Tie} {n k : Nat} {P : List Int} : P ∈ partsTo ts n k ↔ ∃ m, (0 ≤ m ∧ m < (k : Int)) ∧ leader ts m ∧ P = partOf ts n m := by
  unfold partsTo
  rw [List.mem_map]
  constructor
  · rintro ⟨m, hm, rfl⟩
    rw [List.mem_filter, mem_rng, @decide_eq_true_iff _ (_)] at hm
    exact ⟨m, hm.1, hm.2, rfl⟩
  · rintro ⟨m, h1, h2, rfl⟩
    exact ⟨m, by rw [List.mem_filter, mem_rng, @decide_eq_true_iff _ (_)]; exact ⟨h1, h2⟩, rfl⟩
theorem left_lead {ts : List Tie} {n k : Nat} {m : Int} (hm : leader ts m) (h0 : 0 ≤ m ∧ m < n) (hk : (k : Int) ≤ m) : m ∈ leftK ts n k := by
  refine mem_leftK.mpr ⟨h0, fun P hP hp => ?_⟩
  obtain ⟨m', h1, h2, rfl⟩ := mem_partsTo.mp hP
  have := leader_one h2 hm (mem_part.mp hp).2 .refl
  omega
theorem left_closed {ts : List Tie} {n k : Nat} {p q : Int} (hp : p ∈ leftK ts n k) (hq : 0 ≤ q ∧ q < n) (r : Rch ts p q) : q ∈ leftK ts n k := by
  have hp := mem_leftK.mp hp
  refine mem_leftK.mpr ⟨hq, fun P hP h => hp.2 P hP ?_⟩
  obtain ⟨m', h1, h2, rfl⟩ := mem_partsTo.mp hP
  exact mem_part.mpr ⟨hp.1, (mem_part.mp h).2.trans r.symm⟩
theorem no_leads {ts : List Tie} {n k : Nat} {x : Nat} (hx : ∀ p ∈ leftK ts n k, (x : Int) ≤ p) (xn : x ≤ n) : ∀ j : Nat, k ≤ j → j ≤ x → partsTo ts n j = partsTo ts n k := by
  intro j
  induction j with
  | zero => intro h _; rw [Nat.le_zero.mp h]
  | succ j ih =>
    intro h1 h2
    by_cases e : k = j + 1
    · rw [e]
    · rw [partsTo_succ, ih (by omega) (by omega), if_neg, List.append_nil]
      intro hl
      have := hx j (left_lead hl ⟨by omega, by omega⟩ (by omega))
      omega
theorem left_done {ts : List Tie} {n k : Nat} (h : leftK ts n k = []) (hk : k ≤ n) : partsTo ts n k = partsTo ts n n :=
  (no_leads (x := n) (fun p hp => by rw [h] at hp; cases hp) (Nat.le_refl _) n hk (Nat.le_refl _)).symm
theorem left_next {ts : List Tie} {n k : Nat} (ok : ∀ t ∈ ts, TieOk n t) {x : Int} {rest : List Int} (h : leftK ts n k = x :: rest) : ∃ j : Nat, (x = (j : Int)) ∧ j < n ∧ leader ts x ∧ partsTo ts n (j + 1) = partsTo ts n k ++ [partOf ts n x] ∧ ∀ p, p ∈ leftK ts n (j + 1) ↔ p ∈ leftK ts n k ∧ ¬ Rch ts x p := by
  have hx : x ∈ leftK ts n k := by rw [h]; exact List.mem_cons_self
  have hx' := mem_leftK.mp hx
  have ris := leftK_rising ts n k
  have least : ∀ p ∈ leftK ts n k, x ≤ p := fun p hp => by
    rw [h] at hp ris
    rcases List.mem_cons.mp hp with e | e
    · omega
    · have := (List.pairwise_cons.mp ris).1 p e
      omega
  obtain ⟨m, lm, mr, mx⟩ := has_leader ok hx'.1
  have km : (k : Int) ≤ m := by
    by_cases z : m < (k : Int)
    · exact absurd (mem_part.mpr ⟨hx'.1, mx⟩) (hx'.2 _ (mem_partsTo.mpr ⟨m, ⟨mr.1, z⟩, lm, rfl⟩))
    · omega
  have e1 := least m (left_lead lm mr km)
  have e2 := lm x mx
  obtain rfl : m = x := by omega
  obtain ⟨j, rfl⟩ : ∃ j : Nat, m = (j : Int) := ⟨m.toNat, by omega⟩
  have ep : partsTo ts n (j + 1) = partsTo ts n k ++ [partOf ts n j] := by
    rw [partsTo_succ, if_pos lm, no_leads (x := j) least (by omega) j (by omega) (Nat.le_refl _)]
  refine ⟨j, rfl, by omega, lm, ep, fun p => ?_⟩
  rw [mem_leftK, mem_leftK, ep]
  constructor
  · rintro ⟨h1, h2⟩
    exact ⟨⟨h1, fun P hP => h2 P (List.mem_append_left _ hP)⟩, fun r => h2 _ (List.mem_append_right _ (List.mem_singleton.mpr rfl)) (mem_part.mpr ⟨h1, r⟩)⟩
  · rintro ⟨⟨h1, h2⟩, h3⟩
    refine ⟨h1, fun P hP hp => ?_⟩
    rcases List.mem_append.mp hP with z | z
    · exact h2 P z hp
    · rw [List.mem_singleton.mp z] at hp
      exact h3 (mem_part.mp hp).2
def extTo (ts : List Tie) (y : Int) (j : Nat) : List Int := (ts.take j).flatMap fun t => if y = t.one ∨ y = t.other then [t.one, t.other] else []
theorem extTo_succ {ts : List Tie} {y : Int} {j : Nat} {t : Tie} (e : ts[j]? = some t) : extTo ts y (j + 1) = extTo ts y j ++ (if y = t.one ∨ y = t.other then [t.one, t.other] else []) := by
  unfold extTo
  rw [List.take_add_one, e, List.flatMap_append]
  simp
theorem extTo_len (ts : List Tie) (y : Int) (j : Nat) : (extTo ts y j).length ≤ 2 * j := by
  unfold extTo
  rw [List.length_flatMap]
  have key : ∀ us : List Tie, (us.map fun t => (if y = t.one ∨ y = t.other then [t.one, t.other] else []).length).sum ≤ 2 * us.length := fun us => by
    induction us with
    | nil => exact Nat.le_refl _
    | cons u us ih =>
      rw [List.map_cons, List.sum_cons, List.length_cons]
      have : (if y = u.one ∨ y = u.other then [u.one, u.other] else []).length ≤ 2 := by
        by_cases h : y = u.one ∨ y = u.other
        · rw [if_pos h]; exact Nat.le_refl _
        · rw [if_neg h]; exact Nat.zero_le _
      omega
  have := key (ts.take j)
  rw [List.length_take] at this
  omega
theorem mem_ext {ts : List Tie} {y q : Int} : q ∈ extTo ts y ts.length ↔ ∃ t ∈ ts, (y = t.one ∨ y = t.other) ∧ (q = t.one ∨ q = t.other) := by
  unfold extTo
  rw [List.take_length, List.mem_flatMap]
  constructor
  · rintro ⟨t, ht, h⟩
    by_cases e : y = t.one ∨ y = t.other
    · rw [if_pos e] at h
      exact ⟨t, ht, e, by simpa using h⟩
    · rw [if_neg e] at h
      cases h
  · rintro ⟨t, ht, e, h⟩
    exact ⟨t, ht, by rw [if_pos e]; simpa using h⟩
/-- one part growing: pt what is in it, wt what waits -/
structure Gro (ts : List Tie) (n : Nat) (x : Int) (lf0 lf pt wt : List Int) : Prop where
  nd : pt.Nodup
  lf : lf = lf0.filter fun p => !pt.contains p
  pin : ∀ p ∈ pt, p ∈ lf0 ∧ Rch ts x p
  win : ∀ p ∈ wt, (0 ≤ p ∧ p < n) ∧ Rch ts x p
  cl : ∀ p ∈ pt, ∀ q k, Adj ts p q k → q ∈ pt ∨ q ∈ wt
  st : x ∈ pt ∨ x ∈ wt
theorem Gro.drop {ts : List Tie} {n : Nat} {x y : Int} {lf0 lf pt wt : List Int} (g : Gro ts n x lf0 lf pt (wt ++ [y])) (h0 : ∀ q, (0 ≤ q ∧ q < (n : Int)) → Rch ts x q → q ∈ lf0) (h : y ∉ lf) : Gro ts n x lf0 lf pt wt := by
  have hy : y ∈ pt := by
    have w := g.win y (by simp)
    have := h0 y w.1 w.2
    refine Classical.byContradiction fun hn => h ?_
    rw [g.lf, List.mem_filter]
    refine ⟨this, ?_⟩
    rw [Bool.not_eq_true', Bool.eq_false_iff]
    exact fun z => hn (List.contains_iff_mem.mp z)
  refine ⟨g.nd, g.lf, g.pin, fun p hp => g.win p (List.mem_append_left _ hp), fun p hp q k ad => ?_, ?_⟩
  · rcases g.cl p hp q k ad with z | z
    · exact .inl z
    · rcases List.mem_append.mp z with z | z
      · exact .inr z
      · rw [List.mem_singleton.mp z]
        exact .inl hy
  · rcases g.st with z | z
    · exact .inl z
    · rcases List.mem_append.mp z with z | z
      · exact .inr z
      · rw [List.mem_singleton.mp z]
        exact .inl hy
theorem erase_filter {l : List Int} (r : l.Pairwise (· < ·)) {y : Int} : l.erase y = l.filter fun p => !decide (p = y) := by
  have nd : l.Nodup := r.imp fun {a b} h => by omega
  refine rising_ext (r.sublist List.erase_sublist) (r.filter _) fun z => ?_
  rw [nd.mem_erase_iff, List.mem_filter, Bool.not_eq_true', decide_eq_false_iff_not]
  exact ⟨fun ⟨a, b⟩ => ⟨b, a⟩, fun ⟨a, b⟩ => ⟨b, a⟩⟩
theorem Gro.take {ts : List Tie} {n : Nat} {x y : Int} {lf0 lf pt wt : List Int} (ok : ∀ t ∈ ts, TieOk n t) (r0 : lf0.Pairwise (· < ·)) (g : Gro ts n x lf0 lf pt (wt ++ [y])) (h : y ∈ lf) : Gro ts n x lf0 (lf.erase y) (pt ++ [y]) (wt ++ extTo ts y ts.length) := by
  have w := g.win y (by simp)
  have hy := h
  rw [g.lf, List.mem_filter, Bool.not_eq_true', Bool.eq_false_iff] at hy
  have hyp : y ∉ pt := fun z => hy.2 (List.contains_iff_mem.mpr z)
  have nb : ∀ q, q ∈ extTo ts y ts.length → (0 ≤ q ∧ q < (n : Int)) ∧ Rch ts y q := fun q hq => by
    obtain ⟨t, ht, e1, e2⟩ := mem_ext.mp hq
    have o := ok t ht
    have ad : Adj ts t.one t.other t.foe := ⟨t, ht, rfl, .inl ⟨rfl, rfl⟩⟩
    rcases e1 with rfl | rfl <;> rcases e2 with rfl | rfl
    · exact ⟨⟨o.1, o.2.1⟩, .refl⟩
    · exact ⟨⟨o.2.2.1, o.2.2.2.1⟩, Rch.adj ad⟩
    · exact ⟨⟨o.1, o.2.1⟩, (Rch.adj ad).symm⟩
    · exact ⟨⟨o.2.2.1, o.2.2.2.1⟩, .refl⟩
  refine ⟨?_, ?_, fun p hp => ?_, fun p hp => ?_, fun p hp q k ad => ?_, ?_⟩
  · rw [List.nodup_append]
    exact ⟨g.nd, by simp, fun a ha b hb e => hyp (by rw [List.mem_singleton.mp hb] at e; rw [← e]; exact ha)⟩
  · have rl : lf.Pairwise (· < ·) := by rw [g.lf]; exact r0.filter _
    rw [erase_filter rl, g.lf, List.filter_filter]
    refine List.filter_congr fun p _ => ?_
    rw [Bool.eq_iff_iff, Bool.and_eq_true, Bool.not_eq_true', Bool.not_eq_true', Bool.not_eq_true', decide_eq_false_iff_not, Bool.eq_false_iff, Bool.eq_false_iff, Ne, Ne, List.contains_iff_mem, List.contains_iff_mem, List.mem_append, List.mem_singleton]
    exact ⟨fun ⟨a, b⟩ z => z.elim b a, fun z => ⟨fun a => z (.inr a), fun a => z (.inl a)⟩⟩
  · rcases List.mem_append.mp hp with z | z
    · exact g.pin p z
    · rw [List.mem_singleton.mp z]
      exact ⟨hy.1, w.2⟩
  · rcases List.mem_append.mp hp with z | z
    · exact g.win p (List.mem_append_left _ z)
    · exact ⟨(nb p z).1, w.2.trans (nb p z).2⟩
  · rcases List.mem_append.mp hp with z | z
    · rcases g.cl p z q k ad with z | z
      · exact .inl (List.mem_append_left _ z)
      · rcases List.mem_append.mp z with z | z
        · exact .inr (List.mem_append_left _ z)
        · exact .inl (List.mem_append_right _ z)
    · rw [List.mem_singleton.mp z] at ad
      refine .inr (List.mem_append_right _ (mem_ext.mpr ?_))
      obtain ⟨t, ht, _, e⟩ := ad
      rcases e with ⟨rfl, rfl⟩ | ⟨rfl, rfl⟩
      · exact ⟨t, ht, .inl rfl, .inr rfl⟩
      · exact ⟨t, ht, .inr rfl, .inl rfl⟩
  · rcases g.st with z | z
    · exact .inl (List.mem_append_left _ z)
    · rcases List.mem_append.mp z with z | z
      · exact .inr (List.mem_append_left _ z)
      · exact .inl (List.mem_append_right _ z)
theorem Gro.all {ts : List Tie} {n : Nat} {x : Int} {lf0 lf pt : List Int} (g : Gro ts n x lf0 lf pt []) {q : Int} (r : Rch ts x q) : q ∈ pt := by
  obtain ⟨p, r⟩ := r
  induction r with
  | nil => exact g.st.elim id fun z => by cases z
  | step r ad ih => exact (g.cl _ ih _ _ ad).elim id fun z => by cases z
theorem Gro.end' {ts : List Tie} {n k j : Nat} {x : Int} {lf pt ns : List Int} (g : Gro ts n x (leftK ts n k) lf pt []) (hn : ∀ p, p ∈ leftK ts n (j + 1) ↔ p ∈ leftK ts n k ∧ ¬ Rch ts x p) (p1 : ns.Perm pt) (p2 : ns.Pairwise (· ≤ ·)) : lf = leftK ts n (j + 1) ∧ ns = partOf ts n x := by
  constructor
  · refine rising_ext (by rw [g.lf]; exact (leftK_rising _ _ _).filter _) (leftK_rising _ _ _) fun z => ?_
    rw [hn, g.lf, List.mem_filter, Bool.not_eq_true', Bool.eq_false_iff, Ne, List.contains_iff_mem]
    exact ⟨fun ⟨a, b⟩ => ⟨a, fun r => b (g.all r)⟩, fun ⟨a, b⟩ => ⟨a, fun r => b (g.pin z r).2⟩⟩
  · have nd : ns.Nodup := p1.nodup_iff.mpr g.nd
    have lt : ns.Pairwise (· < ·) := (p2.and nd).imp fun {a b} ⟨h1, h2⟩ => by
      have : a ≠ b := h2
      omega
    refine rising_ext lt (part_rising _ _ _) fun z => ?_
    rw [p1.mem_iff, mem_part]
    exact ⟨fun h => ⟨(mem_leftK.mp (g.pin z h).1).1, (g.pin z h).2⟩, fun h => g.all h.2⟩
/-! ### l.remove(k) where k is there -/
theorem takesNever {X : Cx} : Takes X (fun _ _ _ _ => False) := fun u s' x => by
  obtain ⟨a, B, sI, pins, σ, H, cls, d, e, I, nb, up, sky, na, os, ag, w⟩ := x
  exact w.elim
/-! ### the law's weights; the law's parts -/
def spLWeights : Sp := fun vs H Q _ => ∃ (d c t : Addr) (us : List V), vs = [.ref d, .ref t] ∧ Deck H d c ∧ H t = some (.tup us) ∧ us.length ≤ 120 ∧ ∀ (r : Addr) (ws : List Int) (H' : Hp), H' r = some (.tup (ws.map V.int)) → ws.length = us.length → (∀ x ∈ ws, (1 : Int) ≤ x) → Deck H' d c → Kp d c H H' → Q (.ref r) H'
def LstV (H : Hp) (v : V) (P : List Int) : Prop := ∃ a, v = .ref a ∧ H a = some (.lst (P.map V.int))
theorem LstV.same {H H' : Hp} (s : Same H H') {v : V} {P : List Int} (h : LstV H v P) : LstV H' v P := by
  obtain ⟨a, e, h⟩ := h
  exact ⟨a, e, s _ _ h⟩
def spLParts : Sp := fun vs H Q _ => ∃ (n : Nat) (t : Addr) (us : List V) (ts : List Tie), vs = [.int n, .ref t] ∧ H t = some (.tup us) ∧ Paired (TieV H) us ts ∧ WebOk n ts ∧ ∀ r fs H', Same H H' → H' r = some (.lst fs) → Paired (LstV H') fs (partsTo ts n n) → Q (.ref r) H'
section
variable {P : Program} {w : World} {K : PySem.W.Frag} {mg : Str → Option Value} {base : Heap}
end
theorem lst_lst {H : Hp} {L : Addr} {xs : List V} (hn : ∀ P : List Int, True) : True := True.intro
theorem lstVs_mut {H : Hp} {L : Addr} {o : HO} {fs : List V} {Ps : List (List Int)} (h : Paired (fun v P => ∃ a, v = .ref a ∧ a ≠ L ∧ H a = some (.lst (P.map V.int))) fs Ps) : Paired (fun v P => ∃ a, v = .ref a ∧ a ≠ L ∧ (upd H L o) a = some (.lst (P.map V.int))) fs Ps := Paired.mono (fun _ _ ⟨a, e, n, h⟩ => ⟨a, e, n, by rw [upd_ne n]; exact h⟩) h
/-- the lists that were found, apart from those that are under way -/
def FsV (H : Hp) (ds : List Addr) (v : V) (P : List Int) : Prop := ∃ a, v = .ref a ∧ a ∉ ds ∧ H a = some (.lst (P.map V.int))
theorem FsV.mut {H : Hp} {ds : List Addr} {L : Addr} {o : HO} (hL : L ∈ ds) {v : V} {P : List Int} (h : FsV H ds v P) : FsV (upd H L o) ds v P := by
  obtain ⟨a, e, n, h⟩ := h
  exact ⟨a, e, n, by rw [upd_ne (fun z => n (by rw [z]; exact hL))]; exact h⟩
theorem FsV.same {H H' : Hp} {ds : List Addr} (s : Same H H') {v : V} {P : List Int} (h : FsV H ds v P) : FsV H' ds v P := by
  obtain ⟨a, e, n, h⟩ := h
  exact ⟨a, e, n, s _ _ h⟩
theorem FsV.more {H : Hp} {ds : List Addr} {L : Addr} (n0 : H L = none) {v : V} {P : List Int} (h : FsV H ds v P) : FsV H (L :: ds) v P := by
  obtain ⟨a, e, n, h⟩ := h
  refine ⟨a, e, fun z => ?_, h⟩
  rcases List.mem_cons.mp z with z | z
  · rw [z, n0] at h
    cases h
  · exact n z
theorem FsV.less {H : Hp} {ds es : List Addr} (s : ∀ a ∈ es, a ∈ ds) {v : V} {P : List Int} (h : FsV H ds v P) : FsV H es v P := by
  obtain ⟨a, e, n, h⟩ := h
  exact ⟨a, e, fun z => n (s a z), h⟩
section
variable {P : Program} {w : World} {K : PySem.W.Frag} {mg : Str → Option Value} {base : Heap}
end
/-! ### the law's least weight of a part -/
def bitKs : List Int → Nat → List Nb
  | [], _ => []
  | p :: P, j => (p, decide (j % 2 = 1)) :: bitKs P (j / 2)
theorem bitKs_keys : ∀ (P : List Int) (j : Nat), (bitKs P j).map (·.1) = P
  | [], _ => rfl
  | p :: P, j => by rw [bitKs, List.map_cons, bitKs_keys P]
theorem bitKs_snoc : ∀ (P : List Int) (p : Int) (j : Nat), bitKs (P ++ [p]) j = bitKs P j ++ [(p, decide (j / 2 ^ P.length % 2 = 1))]
  | [], p, j => by simp [bitKs]
  | q :: P, p, j => by
    rw [List.cons_append, bitKs, bitKs_snoc P p (j / 2), bitKs, List.length_cons, List.cons_append, Nat.div_div_eq_div_mul, Nat.pow_succ, Nat.mul_comm 2]
def numK (d : Int → Bool) : List Int → Nat
  | [] => 0
  | p :: P => (if d p = true then 1 else 0) + 2 * numK d P
theorem bitKs_num (d : Int → Bool) : ∀ P : List Int, bitKs P (numK d P) = P.map fun p => (p, d p)
  | [] => rfl
  | p :: P => by
    rw [numK, bitKs, List.map_cons]
    cases h : d p with
    | true =>
      rw [if_pos rfl, show (1 + 2 * numK d P) / 2 = numK d P from by omega, bitKs_num d P, decide_eq_true (by omega)]
    | false =>
      rw [if_neg Bool.false_ne_true, show (0 + 2 * numK d P) / 2 = numK d P from by omega, bitKs_num d P, decide_eq_false (by omega)]
theorem numK_lt (d : Int → Bool) {l : Int} (h : d l = false) : ∀ P : List Int, numK d (P ++ [l]) < 2 ^ P.length
  | [] => by
    rw [List.nil_append, numK, h, if_neg Bool.false_ne_true]
    show 0 + 2 * 0 < 1
    decide
  | p :: P => by
    have ih := numK_lt d h P
    rw [List.cons_append, numK, List.length_cons, Nat.pow_succ]
    split <;> omega
/-- what stands after the colourings below i -/
structure LsT (ts : List Tie) (g : Int → Int) (es P : List Int) (i : Nat) (v : Int) : Prop where
  le : ∀ j, j < i → v ≤ sumW g (badF ts (cOf (bitKs P j)) es)
  ex : v = sumW g es ∨ ∃ j, j < i ∧ v = sumW g (badF ts (cOf (bitKs P j)) es)
  top : v ≤ sumW g es
theorem sumW_filter {g : Int → Int} {f : Int → Bool} : ∀ {es : List Int}, (∀ e ∈ es, 1 ≤ g e) → sumW g (es.filter f) ≤ sumW g es
  | [], _ => Int.le_refl _
  | e :: es, h => by
    have ih := sumW_filter (g := g) (f := f) (es := es) fun x hx => h x (List.mem_cons_of_mem _ hx)
    have h1 := h e List.mem_cons_self
    unfold sumW at ih ⊢
    rw [List.filter_cons, List.map_cons, List.sum_cons]
    cases f e with
    | true => rw [if_pos rfl, List.map_cons, List.sum_cons]; omega
    | false => rw [if_neg Bool.false_ne_true]; omega
theorem LsT.next {ts : List Tie} {g : Int → Int} {es P : List Int} {i : Nat} {v : Int} (h : LsT ts g es P i v) (gp : ∀ e ∈ es, 1 ≤ g e) : LsT ts g es P (i + 1) (if sumW g (badF ts (cOf (bitKs P i)) es) < v then sumW g (badF ts (cOf (bitKs P i)) es) else v) := by
  by_cases c : sumW g (badF ts (cOf (bitKs P i)) es) < v
  · rw [if_pos c]
    refine ⟨fun j hj => ?_, .inr ⟨i, by omega, rfl⟩, sumW_filter gp⟩
    by_cases e : j = i
    · rw [e]; exact Int.le_refl _
    · have := h.le j (by omega)
      omega
  · rw [if_neg c]
    refine ⟨fun j hj => ?_, h.ex.imp id (fun ⟨j, a, b⟩ => ⟨j, by omega, b⟩), h.top⟩
    by_cases e : j = i
    · rw [e]; omega
    · exact h.le j (by omega)
theorem LsT.done {ts : List Tie} {g : Int → Int} {es Q : List Int} {l v : Int} (h : LsT ts g es (Q ++ [l]) (2 ^ Q.length) v) (gp : ∀ e ∈ es, 1 ≤ g e) (nd : (Q ++ [l]).Nodup) (cl : ∀ e ∈ es, (tieAt ts e).one ∈ Q ++ [l] ∧ (tieAt ts e).other ∈ Q ++ [l]) : LeastV ts g es v := by
  have p0 : 0 < 2 ^ Q.length := Nat.two_pow_pos _
  refine ⟨?_, fun c => ?_⟩
  · rcases h.ex with e | ⟨j, _, e⟩
    · refine ⟨cOf (bitKs (Q ++ [l]) 0), ?_⟩
      have h1 := h.le 0 p0
      have h2 := sumW_filter (g := g) (f := fun e => brkF (cOf (bitKs (Q ++ [l]) 0)) (tieAt ts e)) gp
      have h3 : sumW g (badF ts (cOf (bitKs (Q ++ [l]) 0)) es) ≤ sumW g es := h2
      omega
    · exact ⟨_, e⟩
  · obtain ⟨d, e1, e2⟩ : ∃ d : Int → Bool, d l = false ∧ badF ts d es = badF ts c es := by
      cases hd : c l with
      | false => exact ⟨c, hd, rfl⟩
      | true => exact ⟨fun p => !c p, by show (!c l) = false; rw [hd]; rfl, badF_flip ts c es⟩
    have h1 := h.le _ (numK_lt d e1 Q)
    rw [bitKs_num, badF_congr (d := d) cl (fun p hp => cOf_map nd d hp), e2] at h1
    exact h1
/-- a row of the law: a tie and its weight -/
def RowL (H : Hp) (ts : List Tie) (g : Int → Int) (v : V) (e : Int) : Prop := ∃ a, v = .ref a ∧ H a = some (.tup [.int (tieAt ts e).one, .int (tieAt ts e).other, .str (kindS (tieAt ts e).foe), .int (g e)])
theorem RowL.tk {H H' : Hp} (k : Tk H H') {ts : List Tie} {g : Int → Int} {v : V} {e : Int} (h : RowL H ts g v e) : RowL H' ts g v e := by
  obtain ⟨a, ev, h⟩ := h
  exact ⟨a, ev, k _ _ h⟩
def spLLeastPart : Sp := fun vs H Q _ => ∃ (p r : Addr) (rows : List V) (ts : List Tie) (g : Int → Int) (P es : List Int), vs = [.ref p, .ref r] ∧ H p = some (.lst (P.map V.int)) ∧ H r = some (.lst rows) ∧ Paired (RowL H ts g) rows es ∧ es.length ≤ 120 ∧ (∀ e ∈ es, 1 ≤ g e) ∧ P.Nodup ∧ P ≠ [] ∧ P.length ≤ 8 ∧ (∀ e ∈ es, (tieAt ts e).one ∈ P ∧ (tieAt ts e).other ∈ P) ∧ ∀ v H', Same H H' → LeastV ts g es v → Q (.int v) H'
theorem sumW_take {g : Int → Int} {es : List Int} {j : Nat} {e : Int} (h : es[j]? = some e) : (es.take (j + 1)).map g = (es.take j).map g ++ [g e] := by
  rw [List.take_add_one, h, List.map_append]
  rfl
section
variable {P : Program} {w : World} {K : PySem.W.Frag} {mg : Str → Option Value} {base : Heap}
end
/-! ### the law's least weight -/
def tiesAt (ts : List Tie) (es : List Int) : List Tie := es.map (tieAt ts)
theorem odd_tiesAt {ts : List Tie} {n : Nat} (ok : ∀ t ∈ ts, TieOk n t) (P : List Int) : Odd (tiesAt ts (tiesIn ts P)) n ↔ oddP ts P := by
  have ok' : ∀ t ∈ tiesAt ts (tiesIn ts P), TieOk n t := fun t ht => by
    obtain ⟨e, he, rfl⟩ := List.mem_map.mp ht
    exact ok _ (tieAt_mem (mem_rng.mpr (tiesIn_mem.mp he).1))
  constructor
  · rintro h ⟨c, hc⟩
    refine brk_no_odd (c := c) (fun t ht => ?_) h
    obtain ⟨e, he, rfl⟩ := List.mem_map.mp ht
    cases hb : brkF c (tieAt ts e) with
    | false => rfl
    | true =>
      have : e ∈ badF ts c (tiesIn ts P) := List.mem_filter.mpr ⟨he, hb⟩
      rw [hc] at this
      cases this
  · intro h
    refine Classical.byContradiction fun hn => h ?_
    obtain ⟨c, hc⟩ := no_odd_brk ok' hn
    refine ⟨c, List.filter_eq_nil_iff.mpr fun e he => ?_⟩
    rw [hc _ (List.mem_map.mpr ⟨e, he, rfl⟩)]
    exact Bool.false_ne_true
def spLLeast : Sp := fun vs H Q _ => ∃ (n : Nat) (t w : Addr) (us : List V) (ts : List Tie) (ws : List Int), vs = [.int n, .ref t, .ref w] ∧ H t = some (.tup us) ∧ Paired (TieV H) us ts ∧ WebOk n ts ∧ H w = some (.tup (ws.map V.int)) ∧ ws.length = ts.length ∧ (∀ x ∈ ws, (1 : Int) ≤ x) ∧ (∀ P ∈ partsTo ts n n, oddF ts P = true → P.length ≤ 8) ∧
  ∀ vs H', Same H H' → Paired (fun P v => LeastV ts (gW ws) (tiesIn ts P) v) (partsTo ts n n) vs → Q (.int vs.sum) H'
theorem gW_pos {ws : List Int} (h : ∀ x ∈ ws, (1 : Int) ≤ x) {e : Int} (h0 : 0 ≤ e) (h1 : e < (ws.length : Int)) : 1 ≤ gW ws e := by
  have hl : e.toNat < ws.length := by omega
  unfold gW
  rw [List.getD_eq_getElem?_getD, List.getElem?_eq_getElem hl]
  exact h _ (List.getElem_mem hl)
theorem sum_snoc (xs : List Int) (x : Int) : (xs ++ [x]).sum = xs.sum + x := by
  rw [List.sum_append]
  simp
section
variable {P : Program} {w : World} {K : PySem.W.Frag} {mg : Str → Option Value} {base : Heap}
end
/-! ### what the law tells right -/
def keepTo (ts : List Tie) (ks : List Int) (j : Nat) : List Tie := ((rng j).filter fun i => !ks.contains i).map (tieAt ts)
theorem keepTo_succ (ts : List Tie) (ks : List Int) (j : Nat) : keepTo ts ks (j + 1) = keepTo ts ks j ++ (if ks.contains (j : Int) = true then [] else [tieAt ts j]) := by
  unfold keepTo
  rw [rng_succ, List.filter_append, List.map_append]
  congr 1
  by_cases h : (j : Int) ∈ ks
  · rw [List.filter_cons_of_neg (by simp [h]), if_pos (by simpa using h)]
    rfl
  · rw [List.filter_cons_of_pos (by simp [h]), if_neg (by simpa using h)]
    rfl
theorem keepTo_len (ts : List Tie) (ks : List Int) (j : Nat) : (keepTo ts ks j).length ≤ j := by
  unfold keepTo
  rw [List.length_map]
  have := List.length_filter_le (fun i => !ks.contains i) (rng j)
  rw [rng_length] at this
  exact this
theorem keepTo_mem {ts : List Tie} {ks : List Int} {t : Tie} (h : t ∈ keepTo ts ks ts.length) : t ∈ ts := by
  unfold keepTo at h
  obtain ⟨i, hi, rfl⟩ := List.mem_map.mp h
  exact tieAt_mem (List.mem_filter.mp hi).1
theorem keepTo_ok {n : Int} {ts : List Tie} (ok : WebOk n ts) (ks : List Int) : WebOk n (keepTo ts ks ts.length) := ⟨ok.lo, ok.hi, by have := keepTo_len ts ks ts.length; have := ok.few; omega, fun t ht => ok.ok t (keepTo_mem ht)⟩
theorem kit_ty38 {K : PySem.W.Frag} {a b : String} {r : Bool} (h : PySem.W.kitOne K (.type a) (.type b) = some r) : PySem.W.kitOne K (.type a) (.type b) = some r := h
def spLIsWhole : Sp := fun vs H Q _ => ∃ i, vs = [.int i] ∧ Q (.bl true) H
def spToldRight : Sp := fun vs H Q _ => ∃ (wv v : V) (w : Addr) (n : Nat) (ts : List Tie) (ws : List Int) (c : Int → Bool), vs = [wv, .ref w, .int (sumW (gW ws) (badF ts c (rng ts.length))), v] ∧ WebAt H wv n ts ∧ WebOk n ts ∧ H w = some (.tup (ws.map V.int)) ∧ ws.length = ts.length ∧ WLV H v (sumW (gW ws) (badF ts c (rng ts.length)), badF ts c (rng ts.length)) ∧ ∀ H', Same H H' → Q (.bl true) H'
theorem keep_brk {ts : List Tie} {c : Int → Bool} : ∀ t ∈ keepTo ts (badF ts c (rng ts.length)) ts.length, brkF c t = false := fun t ht => by
  unfold keepTo at ht
  obtain ⟨e, he, rfl⟩ := List.mem_map.mp ht
  rw [List.mem_filter] at he
  cases hb : brkF c (tieAt ts e) with
  | false => rfl
  | true =>
    have h2 := he.2
    rw [List.contains_iff_mem.mpr (show e ∈ badF ts c (rng ts.length) from List.mem_filter.mpr ⟨he.1, hb⟩)] at h2
    cases h2
section
variable {P : Program} {w : World} {K : PySem.W.Frag} {mg : Str → Option Value} {base : Heap}
end
/-! ### a tuple times one is the tuple -/
theorem tuple_mul1 (l : Addr) (items : Array Value) (n : Nat) (dd : Option Addr) (sl : Array (Option Value)) (u : Tok) :
    Meets (Builtin.«tuple.__mul__» ⟨[.ref l, .int 1 u], []⟩) (fun _ R s => s.heap.get? l = some { cls := .type "tuple", dict := dd, data := .seq items n, slots := sl } ∧ R (.ok (.ret (Value.ref l))) s) :=
  .of_wp fun prog w A R s h => by
    obtain ⟨hp, g, d, tk, os⟩ := s
    obtain ⟨hl, h⟩ := h
    have f1 := AutoSeq1.idx_int
    have c1 : (items.isEmpty || (1 : Int) == 1) = true := by simp
    wp_walk using wpAny_loadPart' hl
    repeat (first
      | (refine wpAny_ite_false (decide_eq_false (by decide)) ?_; wp_walk using wpAny_loadPart' hl)
      | (refine wpAny_ite_true (decide_eq_true c1) ?_; wp_walk using wpAny_loadPart' hl))
    exact ⟨_, rfl, h⟩
def rRep1 (K : PySem.W.Frag) : R2 := fun x y H Q => ∃ l xs, x = .ref l ∧ y = .int 1 ∧ SqT K H l xs ∧ Q (.ref l) H
theorem op_rep1 {X : Cx} : OpR X (binaryOp .Mult) (rRep1 X.K) := by
  intro pins s σ H x y v u Q I rx ry h
  obtain ⟨l, xs, rfl, rfl, hT, q⟩ := h
  cases rx
  obtain ⟨t, rfl⟩ := ry
  obtain ⟨its, r, ⟨⟨cls, dd, data, sl⟩, ho, hc, n, hd⟩, hs⟩ := I.tuple hT
  simp only at hc hd
  subst hc hd
  refine wpAny_binaryOp_repeat_ref (T := "tuple") (U := "int") (by decide) ⟨_, ho, rfl⟩ (fun s' => typeIs_int s' 1 t) noFill_tuple_mul F.fills_int_mul F.slot_int_rmul repeat_tuple F.slot_int_index.lookup
    (call_meets F.slot_int_rmul (typeIs_int s 1 t) F.entry_int_rmul (F.args_int_rmul_2 _ _) (int_rmul_tuple 1 t l its.toArray n dd sl)
      ⟨ho, rfl, ⟨_, ho, rfl⟩, call_meets F.slot_tuple_mul ⟨_, ho, rfl⟩ F.entry_tuple_mul (F.args_tuple_mul_2 _ _) (tuple_mul1 l its.toArray n dd sl t) ⟨ho, ?_⟩⟩)
  exact ⟨.ref l, H, I, rfl, q⟩
/-- one or more times: the same tuple, or a new one -/
def rRepA (K : PySem.W.Frag) : R2 := fun x y H Q => ∃ l k xs, x = .ref l ∧ y = .int k ∧ SqT K H l xs ∧ xs ≠ [] ∧ 1 ≤ k ∧ k ≤ 1000 ∧ xs.length ≤ 1000 ∧ (k = 1 → Q (.ref l) H) ∧ ∀ p, H p = none → Q (.ref p) (upd H p (.tup (List.replicate k.toNat xs).flatten))
theorem op_repA {X : Cx} : OpR X (binaryOp .Mult) (rRepA X.K) := by
  intro pins s σ H x y v u Q I rx ry h
  obtain ⟨l, k, xs, ex, ey, hT, hne, h1, h2, hz, q1, q2⟩ := h
  by_cases e : k = 1
  · exact op_rep1 pins s σ H x y v u Q I rx ry ⟨l, xs, ex, by rw [ey, e], hT, q1 e⟩
  · exact op_repT pins s σ H x y v u Q I rx ry ⟨l, k, xs, ex, ey, hT, hne, by omega, h2, hz, q2⟩
/-! ### a tuple times nought -/
theorem tuple_mulZ (l : Addr) (items : Array Value) (n : Nat) (dd : Option Addr) (sl : Array (Option Value)) (u : Tok) (hi : items.isEmpty = false) :
    Meets (Builtin.«tuple.__mul__» ⟨[.ref l, .int 0 u], []⟩) (fun _ R s => s.heap.get? l = some { cls := .type "tuple", dict := dd, data := .seq items n, slots := sl } ∧
      R (.ok (.ret (Value.ref s.heap.objs.size))) { s with heap := s.heap.push { cls := Value.type "tuple", data := Data.seq #[] }, toks := s.toks }) :=
  .of_wp fun prog w A R s h => by
    obtain ⟨hp, g, d, tk, os⟩ := s
    obtain ⟨hl, h⟩ := h
    have f1 := AutoSeq1.idx_int
    have c1 : (items.isEmpty || (0 : Int) == 1) = false := by rw [hi]; rfl
    wp_walk using wpAny_loadPart' hl
    repeat (first
      | (refine wpAny_ite_false (decide_eq_false (by decide)) ?_; wp_walk using wpAny_loadPart' hl)
      | (refine wpAny_ite_false (decide_eq_false (by rw [c1]; exact Bool.false_ne_true)) ?_; wp_walk using wpAny_loadPart' hl)
      | (refine wpAny_ite_true (decide_eq_true (by simp)) ?_; wp_walk using wpAny_loadPart' hl))
    exact ⟨_, rfl, h⟩
def rRepZ (K : PySem.W.Frag) : R2 := fun x y H Q => ∃ l k xs, x = .ref l ∧ y = .int k ∧ SqT K H l xs ∧ xs ≠ [] ∧ 0 ≤ k ∧ k ≤ 1000 ∧ xs.length ≤ 1000 ∧ (k = 1 → Q (.ref l) H) ∧ ∀ p, H p = none → Q (.ref p) (upd H p (.tup (List.replicate k.toNat xs).flatten))
theorem op_repZ {X : Cx} : OpR X (binaryOp .Mult) (rRepZ X.K) := by
  intro pins s σ H x y v u Q I rx ry h
  obtain ⟨l, k, xs, ex, ey, hT, hne, h1, h2, hz, q1, q2⟩ := h
  by_cases e : k = 0
  · subst e
    subst ex ey
    cases rx
    obtain ⟨t, rfl⟩ := ry
    obtain ⟨its, r, ⟨⟨cls, dd, data, sl⟩, ho, hc, n, hd⟩, hs⟩ := I.tuple hT
    simp only at hc hd
    subst hc hd
    have hle : its.length = xs.length := r.length.symm
    have hn : its ≠ [] := fun e => hne (by
      rw [e] at hle
      exact List.eq_nil_of_length_eq_zero hle.symm)
    have hi : its.toArray.isEmpty = false := by
      cases its with
      | nil => exact absurd rfl hn
      | cons a b => rfl
    refine wpAny_binaryOp_repeat_ref (T := "tuple") (U := "int") (by decide) ⟨_, ho, rfl⟩ (fun s' => typeIs_int s' 0 t) noFill_tuple_mul F.fills_int_mul F.slot_int_rmul repeat_tuple F.slot_int_index.lookup
      (call_meets F.slot_int_rmul (typeIs_int s 0 t) F.entry_int_rmul (F.args_int_rmul_2 _ _) (int_rmul_tuple 0 t l its.toArray n dd sl)
        ⟨ho, rfl, ⟨_, ho, rfl⟩, call_meets F.slot_tuple_mul ⟨_, ho, rfl⟩ F.entry_tuple_mul (F.args_tuple_mul_2 _ _) (tuple_mulZ l its.toArray n dd sl t hi) ⟨ho, ?_⟩⟩)
    refine ⟨.ref s.heap.objs.size, _, I.laid (t' := s.toks) (o := .tup []) (fun b ob q => Heap.get?_push_of_some _ q) (Nat.le_refl _) ?_, rfl, q2 _ (I.hok.fresh (Nat.le_refl _))⟩
    exact ⟨Nat.zero_le _, [], .nil, IsTup.new _ _⟩
  · exact op_repA pins s σ H x y v u Q I rx ry ⟨l, k, xs, ex, ey, hT, hne, by omega, h2, hz, q1, q2⟩
/-! ### k38: the law -/
def DfD (P : Program) (w : World) (K : PySem.W.Frag) (mg : Str → Option Value) (base : Heap) (k : Nat) (x : Str) (ps : List Str) (sp : Sp) (dvs : List V) : Prop := ∃ f fd, FnOk P w K mg base CX0 k f fd ps sp ∧ mg x = some (.ref f) ∧ PySem.W.keepIn K (.ref f) = true ∧ L2.Binds K fd ps [] ∧ ∃ ds, Vals dvs ds ∧ L2.Binds K fd ps ds
theorem DckKt {Ps : List Addr} {d c : Addr} {H H' : Hp} (k : Kt Ps H H') (t : Tabs Ps H) (D : Deck H d c) : Deck H' d c := by
  obtain ⟨cells, st, n, h1, h2, h3⟩ := D
  exact ⟨cells, st, n, by first | exact k.dct t h1 | exact k.lst t h1, k.lst t h2, h3⟩
theorem Tabs.kp {Ps : List Addr} {d c : Addr} {H H' : Hp} (t : Tabs Ps H) (k : Kp d c H H') (D : Deck H d c) : Tabs Ps H' := fun P hP => by
  obtain ⟨ps, e, x⟩ := t P hP
  obtain ⟨cells, st, n, e1, e2, _⟩ := D
  exact ⟨ps, k _ _ (ne_of e e1 (by intro z; cases z)) (ne_of e e2 (by intro z; cases z)) e, x⟩
theorem Tabs.same {Ps : List Addr} {H H' : Hp} (t : Tabs Ps H) (s : Same H H') : Tabs Ps H' := (Kt.same t s).tab
theorem dp_wl {K : PySem.W.Frag} {H : Hp} {v : V} {q : WL} (h : WLV H v q) : Dp K H v (pW q) := by
  obtain ⟨a, b, rfl, e, e2⟩ := h
  exact .tup (SqT.of e) (.cons (.int _) (.cons (.tup (SqT.of e2) (dp_ints _)) .nil))
theorem shaped_pW (q : WL) : SeqAt.shaped (pW q) = true := by
  unfold SeqAt.shaped pW
  simp [PyData.canLay0, PyData.canLayAll0, PyData.depth, PyData.depthAll, lay_ints, deep_ints]
theorem eqv_pW (q : WL) : PyData.eqv (pW q) (pW q) = true := by
  have h := PySem.W.Datum.eqv (wT q) (wT q)
  rw [decide_eq_true rfl] at h
  exact h
theorem wts_tup {H : Hp} {a : Addr} {ws : List Int} {m : Nat} (h : H a = some (.tup (ws.map V.int))) (l : ws.length = m) : Wts H (.ref a) (rng m) (gW ws) := .inr ⟨a, ws, rfl, h, fun x hx => ⟨by have := mem_rng.mp hx; omega, rfl⟩⟩
theorem gW_ones {m : Nat} {e : Int} (h : e ∈ rng m) : gW (List.replicate m 1) e = 1 := by
  have h := mem_rng.mp h
  unfold gW
  rw [List.getD_eq_getElem?_getD, List.getElem?_replicate_of_lt (by omega)]
  rfl
/-- what is told is one, and the law's number is its weight -/
theorem due_told {ts : List Tie} {n : Nat} {g : Int → Int} {xs : List WL} {c : Int → Bool} {vs : List Int} (h : ToldL ts n g xs c) (k : Paired (fun P v => LeastV ts g (tiesIn ts P) v) (partsTo ts n n) vs) : vs.sum = sumW g (badF ts c (rng ts.length)) := by
  rw [vals_one h.lex k, h.sum]
theorem told_one {ts : List Tie} {n : Nat} {g : Int → Int} {xs ys : List WL} {c d : Int → Bool} (h : ToldL ts n g xs c) (k : ToldL ts n g ys d) : badF ts c (rng ts.length) = badF ts d (rng ts.length) := by
  have e := lex_one h.lex k.lex
  subst e
  exact rising_ext (badF_rising ts c _) (badF_rising ts d _) fun z => by rw [← h.perm.mem_iff, k.perm.mem_iff]
def spLaw (K : PySem.W.Frag) (Ps : List Addr) : Sp := fun vs H Q _ => ∃ (a : Addr) (ns : List Int), vs = [.ref a] ∧ SqL K H a (ns.map V.int) ∧ ns.length ≤ 63 ∧ Tabs Ps H ∧ ∀ H', Q (.bl true) H'
/-! ### webs of many small parts: mathematics -/
theorem eras_map (f : Int → V) : ∀ (xs : List Int) (k : Nat), (xs.map f).eraseIdx k = (xs.eraseIdx k).map f
  | [], _ => rfl
  | x :: xs, 0 => rfl
  | x :: xs, k + 1 => by
    show f x :: (xs.map f).eraseIdx k = f x :: (xs.eraseIdx k).map f
    rw [eras_map f xs k]
theorem eras_perm : ∀ {xs : List Int} {k : Nat} {y : Int}, xs[k]? = some y → (y :: xs.eraseIdx k).Perm xs
  | x :: xs, 0, y, h => by
    obtain rfl := Option.some.inj h
    exact List.Perm.refl _
  | x :: xs, k + 1, y, h => by
    have h : xs[k]? = some y := h
    exact (List.Perm.swap x y _).trans ((eras_perm h).cons x)
def ren (os : List Int) (t : Tie) : Tie := ⟨os.getD t.one.toNat 0, os.getD t.other.toNat 0, t.foe⟩
structure Pcs (n : Nat) (ts : List Tie) (k : Nat) (pc : Int → Int) : Prop where
  ok : ∀ t ∈ ts, TieOk n t
  same : ∀ t ∈ ts, pc t.one = pc t.other
  few : ∀ i, ((rng n).filter fun p => decide (pc p = i)).length ≤ 8
  lt : ∀ p : Int, 0 ≤ p → p < n → pc p < k
theorem rng_add (n : Nat) : ∀ s : Nat, rng (n + s) = rng n ++ (rng s).map (fun p => (n : Int) + p)
  | 0 => by rw [Nat.add_zero]; show rng n = rng n ++ []; rw [List.append_nil]
  | s + 1 => by
    rw [← Nat.add_assoc, rng_succ, rng_add n s, rng_succ, List.map_append, List.append_assoc]
    rfl
def shf (n : Nat) (t : Tie) : Tie := ⟨n + t.one, n + t.other, t.foe⟩
theorem Pcs.more {n : Nat} {ts us : List Tie} {k : Nat} {pc : Int → Int} (h : Pcs n ts k pc) {s : Nat} (s8 : s ≤ 8) (ok : ∀ t ∈ us, TieOk s t) : Pcs (n + s) (ts ++ us.map (shf n)) (k + 1) (fun p => if p < n then pc p else k) := by
  refine ⟨fun t ht => ?_, fun t ht => ?_, fun i => ?_, fun p p0 p1 => ?_⟩
  · rcases List.mem_append.mp ht with z | z
    · have o := h.ok t z
      exact ⟨o.1, by have := o.2.1; omega, o.2.2.1, by have := o.2.2.2.1; omega, o.2.2.2.2⟩
    · obtain ⟨u, hu, rfl⟩ := List.mem_map.mp z
      have o := ok u hu
      obtain ⟨o1, o2, o3, o4, o5⟩ := o
      refine ⟨?_, ?_, ?_, ?_, ?_⟩
      · show (0 : Int) ≤ n + u.one; omega
      · show (n : Int) + u.one < ((n + s : Nat) : Int); omega
      · show (0 : Int) ≤ n + u.other; omega
      · show (n : Int) + u.other < ((n + s : Nat) : Int); omega
      · show (n : Int) + u.one ≠ n + u.other; omega
  · skip
    rcases List.mem_append.mp ht with z | z
    · have o := h.ok t z
      rw [if_pos o.2.1, if_pos o.2.2.2.1]
      exact h.same t z
    · obtain ⟨u, hu, rfl⟩ := List.mem_map.mp z
      obtain ⟨o1, o2, o3, o4, o5⟩ := ok u hu
      rw [if_neg (show ¬ (shf n u).one < (n : Int) from (by show ¬ (n : Int) + u.one < n; omega)), if_neg (show ¬ (shf n u).other < (n : Int) from (by show ¬ (n : Int) + u.other < n; omega))]
  · rw [rng_add, List.filter_append, List.length_append]
    have e1 : ((rng n).filter fun p => decide ((if p < (n : Int) then pc p else (k : Int)) = i)) = (rng n).filter fun p => decide (pc p = i) := by
      refine List.filter_congr fun p hp => ?_
      rw [if_pos (mem_rng.mp hp).2]
    have e2 : (((rng s).map fun p => (n : Int) + p).filter fun p => decide ((if p < (n : Int) then pc p else (k : Int)) = i)) = if (k : Int) = i then (rng s).map fun p => (n : Int) + p else [] := by
      by_cases hk : (k : Int) = i
      · rw [if_pos hk]
        refine List.filter_eq_self.mpr fun p hp => ?_
        obtain ⟨q, hq, rfl⟩ := List.mem_map.mp hp
        have := mem_rng.mp hq
        rw [if_neg (by omega)]
        exact decide_eq_true hk
      · rw [if_neg hk]
        refine List.filter_eq_nil_iff.mpr fun p hp => ?_
        obtain ⟨q, hq, rfl⟩ := List.mem_map.mp hp
        have := mem_rng.mp hq
        rw [if_neg (by omega), decide_eq_false hk]
        exact Bool.false_ne_true
    rw [e1, e2]
    by_cases hk : (k : Int) = i
    · rw [if_pos hk, List.length_map, rng_length]
      have : ((rng n).filter fun p => decide (pc p = i)) = [] := List.filter_eq_nil_iff.mpr fun p hp => by
        have hp := mem_rng.mp hp
        have := h.lt p hp.1 hp.2
        rw [decide_eq_false (by omega)]
        exact Bool.false_ne_true
      rw [this]
      show 0 + s ≤ 8
      omega
    · rw [if_neg hk]
      exact h.few i
  · skip
    by_cases z : p < (n : Int)
    · rw [if_pos z]
      have := h.lt p p0 z
      omega
    · rw [if_neg z]
      omega
theorem os_nodup {os : List Int} {n : Nat} (h : os.Perm (rng n)) : os.Nodup := h.nodup_iff.mpr ((rng_rising n).imp fun {a b} h => by omega)
theorem os_len {os : List Int} {n : Nat} (h : os.Perm (rng n)) : os.length = n := by rw [h.length_eq, rng_length]
theorem os_at {os : List Int} {n : Nat} (h : os.Perm (rng n)) {p : Int} (h0 : 0 ≤ p) (h1 : p < n) : ∃ hl : p.toNat < os.length, os.getD p.toNat 0 = os[p.toNat] := by
  have l := os_len h
  have hl : p.toNat < os.length := by omega
  exact ⟨hl, by rw [List.getD_eq_getElem?_getD, List.getElem?_eq_getElem hl]; rfl⟩
theorem os_in {os : List Int} {n : Nat} (h : os.Perm (rng n)) {p : Int} (h0 : 0 ≤ p) (h1 : p < n) : 0 ≤ os.getD p.toNat 0 ∧ os.getD p.toNat 0 < n := by
  obtain ⟨hl, e⟩ := os_at h h0 h1
  rw [e]
  exact mem_rng.mp (h.mem_iff.mp (List.getElem_mem hl))
theorem os_idx {os : List Int} {n : Nat} (h : os.Perm (rng n)) {p : Int} (h0 : 0 ≤ p) (h1 : p < n) : ((os.idxOf (os.getD p.toNat 0) : Nat) : Int) = p := by
  obtain ⟨hl, e⟩ := os_at h h0 h1
  rw [e, (os_nodup h).idxOf_getElem p.toNat hl]
  omega
theorem os_map {os : List Int} {n : Nat} (h : os.Perm (rng n)) : os = (rng n).map fun p => os.getD p.toNat 0 := by
  refine List.ext_getElem (by rw [List.length_map, rng_length, os_len h]) fun i h1 h2 => ?_
  rw [List.length_map, rng_length] at h2
  have ei : (rng n)[i]'(by rw [rng_length]; exact h2) = (i : Int) := by
    unfold rng
    rw [List.getElem_map, List.getElem_range]
  rw [List.getElem_map, ei, Int.toNat_natCast, List.getD_eq_getElem?_getD, List.getElem?_eq_getElem h1]
  rfl
theorem Pcs.renamed {n : Nat} {ts : List Tie} {k : Nat} {pc : Int → Int} (h : Pcs n ts k pc) {os : List Int} (ho : os.Perm (rng n)) {us : List Tie} (hu : ∀ t ∈ us, t ∈ ts) : (∀ t ∈ us.map (ren os), TieOk n t) ∧ ∀ P ∈ partsTo (us.map (ren os)) n n, P.length ≤ 8 := by
  constructor
  · intro t ht
    obtain ⟨u, hu', rfl⟩ := List.mem_map.mp ht
    obtain ⟨o1, o2, o3, o4, o5⟩ := h.ok u (hu u hu')
    have a := os_in ho o1 o2
    have b := os_in ho o3 o4
    refine ⟨a.1, a.2, b.1, b.2, fun z => ?_⟩
    have z : os.getD u.one.toNat 0 = os.getD u.other.toNat 0 := z
    have e1 := os_idx ho o1 o2
    have e2 := os_idx ho o3 o4
    rw [z] at e1
    omega
  · intro P hP
    obtain ⟨s, hs, rfl⟩ := part_is hP
    let lab : Int → Int := fun q => pc (os.idxOf q : Nat)
    have adj : ∀ {x y : Int} {b : Bool}, Adj (us.map (ren os)) x y b → lab x = lab y := fun {x y b} ad => by
      obtain ⟨t, ht, _, e⟩ := ad
      obtain ⟨u, hu', rfl⟩ := List.mem_map.mp ht
      obtain ⟨o1, o2, o3, o4, o5⟩ := h.ok u (hu u hu')
      have e1 : lab (ren os u).one = pc u.one := by
        show pc ((os.idxOf (os.getD u.one.toNat 0) : Nat) : Int) = _
        rw [os_idx ho o1 o2]
      have e2 : lab (ren os u).other = pc u.other := by
        show pc ((os.idxOf (os.getD u.other.toNat 0) : Nat) : Int) = _
        rw [os_idx ho o3 o4]
      have e3 := h.same u (hu u hu')
      rcases e with ⟨rfl, rfl⟩ | ⟨rfl, rfl⟩
      · rw [e1, e2, e3]
      · rw [e1, e2, e3]
    have rch : ∀ {y : Int}, Rch (us.map (ren os)) s y → lab y = lab s := fun {y} r => by
      obtain ⟨b, r⟩ := r
      induction r with
      | nil => rfl
      | step r ad ih => rw [← adj ad, ih]
    have sub : partOf (us.map (ren os)) n s = ((rng n).filter fun q => decide (lab q = lab s)).filter fun q => @decide (Rch (us.map (ren os)) s q) (Classical.propDecidable _) := by
      unfold partOf
      rw [List.filter_filter]
      refine List.filter_congr fun q _ => ?_
      by_cases r : Rch (us.map (ren os)) s q
      · rw [@decide_eq_true _ (Classical.propDecidable _) r, decide_eq_true (rch r)]
        rfl
      · rw [@decide_eq_false _ (Classical.propDecidable _) r]
        rfl
    have l1 : (partOf (us.map (ren os)) n s).length ≤ ((rng n).filter fun q => decide (lab q = lab s)).length := by
      rw [sub]
      exact List.length_filter_le _ _
    have l2 : ((rng n).filter fun q => decide (lab q = lab s)).length = (os.filter fun q => decide (lab q = lab s)).length := (ho.filter _).length_eq.symm
    have l3 : (os.filter fun q => decide (lab q = lab s)).length = ((rng n).filter fun p => decide (pc p = lab s)).length := by
      have e : (os.filter fun q => decide (lab q = lab s)) = ((rng n).map fun p => os.getD p.toNat 0).filter fun q => decide (lab q = lab s) := by rw [← os_map ho]
      rw [e, List.filter_map, List.length_map]
      congr 1
      refine List.filter_congr fun p hp => ?_
      have hp := mem_rng.mp hp
      show decide (pc ((os.idxOf (os.getD p.toNat 0) : Nat) : Int) = lab s) = _
      rw [os_idx ho hp.1 hp.2]
    have := h.few (lab s)
    omega
/-! ### the place of a number in a tuple -/
section
variable {X : Cx}
def rIdxT (K : PySem.W.Frag) : V → List V → Hp → VK → Prop := fun x xs H Q => ∃ (p : Addr) (ns : List Int) (k : Int) (j : Nat), x = .ref p ∧ xs = [.int k] ∧ SqT K H p (ns.map V.int) ∧ ns[j]? = some k ∧ (∀ m, m < j → ns[m]? ≠ some k) ∧ Q (.int (j : Nat)) H
theorem mt_tidx : MtR X "tuple.index" (rIdxT X.K) := by
  intro pins s σ H x xs v us Q I rx rs h
  obtain ⟨p, ns, z, j, rfl, rfl, hq, hy, hno, q⟩ := h
  cases rx
  obtain ⟨u, rfl, t, rfl⟩ := vals1 rs
  obtain ⟨its, r, pl, hz⟩ := I.tuple hq
  obtain ⟨⟨cls, dd, dt, sl⟩, ho, hc, n, hd⟩ := pl
  simp only at hc hd
  subst hc
  subst hd
  have hl : its.toArray.size = ns.length := by rw [List.size_toArray, ← r.length, List.length_map]
  have hj : j < its.toArray.size := by rw [hl]; exact (List.getElem?_eq_some_iff.mp hy).1
  have hi := ints_of_vals r
  have at' : ∀ (m : Nat) (hm : m < its.toArray.size), ∃ y t', ns[m]? = some y ∧ its.toArray[m] = Value.int y t' := fun m hm => by
    have hm' : m < ns.length := by rw [← hl]; exact hm
    obtain ⟨w, hw, t', hw'⟩ := r.get (i := m) (x := .int ns[m]) (by simp [hm'])
    refine ⟨ns[m], t', List.getElem?_eq_getElem hm', ?_⟩
    have e := (List.getElem?_eq_some_iff.mp hw).2
    rw [← hw', ← e]
    simp
  have ek : ∀ (y : Int) (t' : Tok), eqk z (Value.int y t') = decide (y = z) := fun y t' => by
    show (y == z) = _
    by_cases h : y = z
    · rw [decide_eq_true h, h]; simp
    · rw [decide_eq_false h]; simp [h]
  refine call_meets PySem.F.slot_tuple_index ⟨_, ho, rfl⟩ PySem.F.entry_tuple_index (PySem.F.args_tuple_index_2 _ _) (TI.tuple_indexAt p its.toArray n dd sl (.int z t) (eqk z) j hj ?_ ?_)
    ⟨ho, fun y hy => (eqk_gives hi y (by simpa using hy)).at _ _, ⟨.int (j : Nat), H, I.tok _, ⟨_, rfl⟩, q⟩⟩
  · obtain ⟨y, t', h1, h2⟩ := at' j hj
    rw [hy] at h1
    cases h1
    rw [h2, ek]
    exact decide_eq_true rfl
  · intro m hm hmj
    obtain ⟨y, t', h1, h2⟩ := at' m hm
    rw [h2, ek]
    refine decide_eq_false fun e => hno m hmj ?_
    rw [h1, e]
end
/-! ### zip of three tuples of one length -/
def ItZ (K : PySem.W.Frag) (a b c : Addr) : It where
  go := fun i H => ∃ (xs ys zs : List V), (SqT K H a xs ∧ SqT K H b ys ∧ SqT K H c zs) ∧ i < xs.length ∧ ys.length = xs.length ∧ zs.length = xs.length
  yld := fun i H v H' => ∃ T x y z, v = .ref T ∧ H T = none ∧ H' = upd H T (.tup [x, y, z]) ∧ (∀ xs, SqT K H a xs → xs[i]? = some x) ∧ (∀ ys, SqT K H b ys → ys[i]? = some y) ∧ ∀ zs, SqT K H c zs → zs[i]? = some z
  stop := fun i H => ∃ (xs ys zs : List V), (SqT K H a xs ∧ SqT K H b ys ∧ SqT K H c zs) ∧ xs.length = i ∧ ys.length = i ∧ zs.length = i
theorem turn_zip3 {P : Program} {w : World} {K : PySem.W.Frag} {elts : List Expr} {kk : Nat} {tpos : Pos} {a b c z TI TO i1 i2 i3 : Addr} (S : ZipSep3 z TI TO i1 i2 i3 [i1, a] [i2, b] [i3, c]) (n1 : a ≠ i1) (n2 : b ≠ i2) (n3 : c ≠ i3) :
    Turn P w K (.Tuple elts kk tpos) (ItZ K a b c) [z, TI, TO, i1, i2, i3] z (fun i h => IsZip h z TI TO .none ∧ IsTupOf3 h TI (.ref i1) (.ref i2) (.ref i3) ∧ (∃ a1 a2 a3, IsTupOf3 h TO a1 a2 a3) ∧ h.IsTupleIter i1 a i ∧ h.IsTupleIter i2 b i ∧ h.IsTupleIter i3 c i) where
  mem := List.mem_cons_self
  obj := by
    rintro i h ⟨hz, hTI, ⟨a1, a2, a3, hTO⟩, ⟨o1, e1, _, d1⟩, ⟨o2, e2, _, d2⟩, ⟨o3, e3, _, d3⟩⟩ q hq
    simp only [List.mem_cons, List.not_mem_nil, or_false] at hq
    rcases hq with rfl | rfl | rfl | rfl | rfl | rfl
    · exact ⟨_, hz, fun v y => nomatch y⟩
    · exact ⟨_, hTI, fun v y => nomatch y⟩
    · exact ⟨_, hTO, fun v y => nomatch y⟩
    · exact ⟨o1, e1, fun v y => by rw [d1] at y; cases y⟩
    · exact ⟨o2, e2, fun v y => by rw [d2] at y; cases y⟩
    · exact ⟨o3, e3, fun v y => by rw [d3] at y; cases y⟩
  keep := by
    rintro i h h' ⟨hz, hTI, ⟨a1, a2, a3, hTO⟩, t1, t2, t3⟩ kp
    exact ⟨kp z (by simp) _ hz, kp TI (by simp) _ hTI, ⟨a1, a2, a3, kp TO (by simp) _ hTO⟩, t1.at fun o q => kp i1 (by simp) o q, t2.at fun o q => kp i2 (by simp) o q, t3.at fun o q => kp i3 (by simp) o q⟩
  item := by
    intro X hP hw hK hc i pins s σ H E I hf st hg
    subst hP hw hK
    obtain ⟨hz, hTI, hTO, t1, t2, t3⟩ := st
    obtain ⟨xs, ys, zs, ⟨qx, qy, qz⟩, hi, ly, lz⟩ := hg
    obtain ⟨us, ru, tu, _⟩ := I.tuple qx
    obtain ⟨vs, rv, tv, _⟩ := I.tuple qy
    obtain ⟨ws, rw', tw, _⟩ := I.tuple qz
    have lu := ru.length
    have lv := rv.length
    have lw := rw'.length
    obtain ⟨u, hu, eu⟩ := ru.get (List.getElem?_eq_getElem hi)
    obtain ⟨v, hv, ev⟩ := rv.get (List.getElem?_eq_getElem (show i < ys.length by omega))
    obtain ⟨w', hw, ew⟩ := rw'.get (List.getElem?_eq_getElem (show i < zs.length by omega))
    have W := WalksT.zipD3 (A := X.A) S (Draws.tuple (prog := X.prog) (w := X.w) (A := X.A.in1) (I.ok.hd hc) i1 a n1 us.toArray) (Draws.tuple (prog := X.prog) (w := X.w) (A := X.A.in1) (I.ok.hd hc) i2 b n2 vs.toArray) (Draws.tuple (prog := X.prog) (w := X.w) (A := X.A.in1) (I.ok.hd hc) i3 c n3 ws.toArray)
    refine W.item i s _ _ (by simp only [List.size_toArray]; omega) ⟨hz, hTI, hTO, ⟨t1, tu⟩, ⟨t2, tv⟩, ⟨t3, tw⟩⟩ fun T vals h' tk hp newT isT mid kp => ?_
    obtain ⟨y1, y2, y3, p1, p2, p3, rfl⟩ := hp
    have apart := W.apart i T h' mid
    obtain rfl : u = y1 := Option.some.inj (((by simpa using hu) : us.toArray[i]? = some u).symm.trans p1)
    obtain rfl : v = y2 := Option.some.inj (((by simpa using hv) : vs.toArray[i]? = some v).symm.trans p2)
    obtain rfl : w' = y3 := Option.some.inj (((by simpa using hw) : ws.toArray[i]? = some w').symm.trans p3)
    refine ⟨_, rfl, W.go elts kk tpos i T { s with heap := h', toks := tk } _ _ mid fun h2 st2 kp2 => ?_⟩
    obtain ⟨g1, g2, g3, ⟨g4, _⟩, ⟨g5, _⟩, ⟨g6, _⟩⟩ := st2
    have objT : ObjOk X.prog X.w (upd H T (.tup [xs[i], ys[i], zs[i]])) h2 T (.tup [xs[i], ys[i], zs[i]]) := by
      obtain ⟨ot, et, ct, nt, dt⟩ := isT
      exact ⟨by show 3 ≤ sizeLine; decide, [u, v, w'], .cons eu (.cons ev (.cons ew .nil)), ⟨ot, kp2 _ _ apart et, ct, nt, dt⟩⟩
    have J : Inv X pins σ (upd H T (.tup [xs[i], ys[i], zs[i]])) { s with heap := h2, toks := tk } := I.turnedNew (ch := [z, TI, TO, i1, i2, i3]) (fun q ob hq e => by
      simp only [List.mem_cons, List.not_mem_nil, or_false, not_or] at hq
      have nw : q ∉ [z, TO, i1, i2, i3] := by simp [hq]
      exact kp2 q ob nw (kp q ob nw e)) hf newT objT
    refine ⟨.ref T, _, J, rfl, ⟨T, _, _, _, rfl, I.hok.fresh newT, rfl, fun l hl => by rw [I.tuple_inj hl qx]; exact List.getElem?_eq_getElem hi, fun l hl => by rw [I.tuple_inj hl qy]; exact List.getElem?_eq_getElem _, fun l hl => by rw [I.tuple_inj hl qz]; exact List.getElem?_eq_getElem _⟩, ⟨g1, g2, g3, g4, g5, g6⟩, fun q hq => ?_⟩
    have lq : q < s.heap.objs.size := by
      obtain ⟨_, _, ⟨a1, a2, a3, hTO⟩⟩ := (⟨hz, hTI, hTO⟩ : _ ∧ _ ∧ _)
      obtain ⟨o1, e1, _⟩ := t1
      obtain ⟨o2, e2, _⟩ := t2
      obtain ⟨o3, e3, _⟩ := t3
      simp only [List.mem_cons, List.not_mem_nil, or_false] at hq
      rcases hq with rfl | rfl | rfl | rfl | rfl | rfl
      · exact Heap.lt_size hz
      · exact Heap.lt_size hTI
      · exact Heap.lt_size hTO
      · exact Heap.lt_size e1
      · exact Heap.lt_size e2
      · exact Heap.lt_size e3
    rw [upd_ne (Nat.ne_of_lt (Nat.lt_of_lt_of_le lq newT))]
    exact (hf q hq).1
  done := by
    intro X hP hw hK hc i pins s σ H E I hf st hg
    subst hP hw hK
    obtain ⟨hz, hTI, hTO, t1, t2, t3⟩ := st
    obtain ⟨xs, ys, zs, ⟨qx, qy, qz⟩, lx, ly, lz⟩ := hg
    obtain ⟨us, ru, tu, _⟩ := I.tuple qx
    obtain ⟨vs, rv, tv, _⟩ := I.tuple qy
    obtain ⟨ws, rw', tw, _⟩ := I.tuple qz
    have lu := ru.length
    have lv := rv.length
    have lw := rw'.length
    have W := WalksT.zipD3 (A := X.A) S (Draws.tuple (prog := X.prog) (w := X.w) (A := X.A.in1) (I.ok.hd hc) i1 a n1 us.toArray) (Draws.tuple (prog := X.prog) (w := X.w) (A := X.A.in1) (I.ok.hd hc) i2 b n2 vs.toArray) (Draws.tuple (prog := X.prog) (w := X.w) (A := X.A.in1) (I.ok.hd hc) i3 c n3 ws.toArray)
    have en : min (min us.toArray.size vs.toArray.size) ws.toArray.size = i := by simp only [List.size_toArray]; omega
    refine W.done s _ _ ?_ fun h' tk kp => ⟨rfl, ?_⟩
    · rw [en]
      exact ⟨hz, hTI, hTO, ⟨t1, tu⟩, ⟨t2, tv⟩, ⟨t3, tw⟩⟩
    · refine I.turnedL (ch := [z, TI, TO, i1, i2, i3]) (fun q ob hq e => ?_) hf
      simp only [List.mem_cons, List.not_mem_nil, or_false, not_or] at hq
      exact kp q ob (by simp [hq]) e
  self := by
    rintro A i s Q E ⟨hz, _⟩ h
    exact wpAny_pyIter_zip hz h
def iZip3 (K : PySem.W.Frag) (ta : TA) : TI := fun σ H R => ta σ H fun vs H1 => ∃ a b c xs ys zs, vs = [.ref a, .ref b, .ref c] ∧ SqT K H1 a xs ∧ SqT K H1 b ys ∧ SqT K H1 c zs ∧ R (ItZ K a b c) H1
theorem pi_zip3 {X : Cx} {e e2 e3 : Expr} {ta : TA} {p pos tpos : Pos} {elts : List Expr} {kk : Nat} (hg : Gl X "zip") (hm : X.mg "zip" = none) (ha : PA X [e, e2, e3] ta) (hs : starEach [e, e2, e3] X.env = (false, eval e X.env) :: starEach [e2, e3] X.env := by rfl)
    (hpl : (backTo pos (starEach [e2, e3] X.env)).any (·.1) = false := by rfl) : PI X (.Tuple elts kk tpos) (.Call (.Name "zip" p) [e, e2, e3] [] pos) (iZip3 X.K ta) := by
  refine ⟨fun pins s σ H R I want => Call_ (ld_blt I hg hm PyProof.Rows.boot_zip (PyProof.Rows.callWith_type1 (thn (ha.run pos pins s σ H _ I want) fun us s1 got => ?_) hs hpl))⟩
  obtain ⟨vs, H1, J, rel, a, b, c, xs, ys, zs, ex, qa, qb, qc, q⟩ := got
  subst ex
  cases rel with
  | cons r1 rel =>
    cases rel with
    | cons r2 rel =>
      cases rel with
      | cons r3 rel =>
        cases rel
        cases r1
        cases r2
        cases r3
        obtain ⟨u1, _, t1, _⟩ := J.tuple qa
        obtain ⟨u2, _, t2, _⟩ := J.tuple qb
        obtain ⟨u3, _, t3, _⟩ := J.tuple qc
        have la : a < s1.heap.objs.size := let ⟨_, y, _⟩ := t1; Heap.lt_size y
        have lb : b < s1.heap.objs.size := let ⟨_, y, _⟩ := t2; Heap.lt_size y
        have lc : c < s1.heap.objs.size := let ⟨_, y, _⟩ := t3; Heap.lt_size y
        refine zip_begins3 (begins_tuple a u1.toArray) (begins_tuple b u2.toArray) (begins_tuple c u3.toArray) t1 t2 t3 fun h' hz hTI hTO g1 g2 g3 _ kp => wpAny_pyIter_zip hz ?_
        have J2 : Inv X pins σ H1 { s1 with heap := h' } := J.kept (t' := s1.toks) kp
        have S := zip_sep3 (N := s1.heap.objs.size) (fp1 := [a]) (fp2 := [b]) (fp3 := [c]) (fun y hy => by rw [List.mem_singleton.mp hy]; exact la) (fun y hy => by rw [List.mem_singleton.mp hy]; exact lb) (fun y hy => by rw [List.mem_singleton.mp hy]; exact lc)
        refine ⟨s1.heap.objs.size + 5, [s1.heap.objs.size + 5, s1.heap.objs.size + 3, s1.heap.objs.size + 4, s1.heap.objs.size, s1.heap.objs.size + 1, s1.heap.objs.size + 2], _, _, H1, rfl, J2, turn_zip3 S (Nat.ne_of_lt la) (Nat.ne_of_lt (Nat.lt_succ_of_lt lb)) (Nat.ne_of_lt (Nat.lt_succ_of_lt (Nat.lt_succ_of_lt lc))), ⟨hz, hTI, ⟨_, _, _, hTO⟩, ⟨_, g1, rfl, rfl⟩, ⟨_, g2, rfl, rfl⟩, ⟨_, g3, rfl, rfl⟩⟩, fun y hy => ?_, q⟩
        have ly : s1.heap.objs.size ≤ y := by
          simp only [List.mem_cons, List.not_mem_nil, or_false] at hy
          rcases hy with rfl | rfl | rfl | rfl | rfl | rfl
          · exact Nat.le_add_right _ _
          · exact Nat.le_add_right _ _
          · exact Nat.le_add_right _ _
          · exact Nat.le_refl _
          · exact Nat.le_add_right _ _
          · exact Nat.le_add_right _ _
        exact J.fpOk ly (J.hok.fresh ly)
/-! ### t[::-1] of a tuple -/
theorem fm_congr {α β : Type} {f g : α → Option β} : ∀ {l : List α}, (∀ x ∈ l, f x = g x) → l.filterMap f = l.filterMap g
  | [], _ => rfl
  | x :: l, h => by
    rw [List.filterMap_cons, List.filterMap_cons, h x (by simp), fm_congr (l := l) fun y hy => h y (List.mem_cons_of_mem _ hy)]
theorem back_pick (items : Array Value) : ((List.range items.size).filterMap fun (k : Nat) => items[((items.size : Int) - 1 + (k : Int) * (-1)).toNat]?).toArray = items.toList.reverse.toArray := by
  have e : (List.range items.size).filterMap (fun (k : Nat) => items[((items.size : Int) - 1 + (k : Int) * (-1)).toNat]?) = ((List.range items.size).map fun k => items.size - 1 - k).filterMap (items[·]?) := by
    rw [List.filterMap_map]
    refine fm_congr fun k hk => ?_
    have := List.mem_range.mp hk
    show _ = items[items.size - 1 - k]?
    congr 1
    omega
  rw [e, PySem.W.krv_range, List.filterMap_reverse, PySem.W.krv_all]
section
variable {P : Program} {w : World} {A : PySem.Around} {E : Value → Shared → Prop} {s : Shared}
theorem applied_back {sl : Addr} {vk : Value} {n : Nat} {Q : Int × Int × Nat → Shared → Prop} (hs : s.heap.IsSliceOf sl .none .none vk) (pk : IsPart vk (some (-1))) (h : Q ((n : Int) - 1, -1, n) s) : wpAny (model P w) A (Builtin.Slice.sliceApplied (.ref sl) (pure (n : Int))) Q E s := by
  obtain ⟨os, look, _, flds⟩ := id hs
  unfold Builtin.Slice.sliceApplied Builtin.Slice.sliceFields
  refine wpAny_bind (wpAny_bind (wpAny_field look flds (x := .none) rfl (wpAny_bind (wpAny_field look flds (x := .none) rfl (wpAny_bind (wpAny_field look flds (x := vk) rfl (wpAny_pure ?_)))))))
  refine wpAny_bind (HT.slicePart_ pk ?_)
  show wpAny _ _ (if ((-1 : Int) == 0) = true then _ else _) _ _ s
  rw [if_neg (by decide)]
  refine wpAny_bind (HT.slicePart_ .none (wpAny_bind (HT.slicePart_ .none (wpAny_bind (wpAny_pure ?_)))))
  have pl : Builtin.Slice.slicePlaces ((n : Int) - 1) (-1) (-1) = n := by
    unfold Builtin.Slice.slicePlaces
    rw [if_neg (by decide)]
    by_cases z : (n : Int) - 1 > -1
    · rw [if_pos z, show (-(-1) : Int) = 1 from by decide, Int.ediv_one]
      omega
    · rw [if_neg z]
      omega
  show wpAny _ _ (pure ((n : Int) - 1, (-1 : Int), Builtin.Slice.slicePlaces ((n : Int) - 1) (-1) (-1))) _ _ s
  rw [pl]
  exact wpAny_pure h
theorem getItem_back {t sl : Addr} {items : Array Value} {vk : Value} {Q : Value → Shared → Prop} (ht : IsTup s.heap t items) (hs : s.heap.IsSliceOf sl .none .none vk) (pk : IsPart vk (some (-1))) (hsz : items.size ≤ sizeLine)
    (h : Q (.ref s.heap.objs.size) { s with heap := s.heap.push { cls := .type "tuple", data := .seq items.toList.reverse.toArray } }) : wpAny (model P w) A (getItem (.ref t) (.ref sl)) Q E s := by
  have small : sizeOk (.seq items.toList.reverse.toArray) := by
    show items.toList.reverse.toArray.size ≤ sizeLine
    rw [List.size_toArray, List.length_reverse, Array.length_toList]
    exact hsz
  obtain ⟨os, look, kind, _⟩ := id hs
  have isSl : s.TypeIs (.ref sl) "slice" := ⟨os, look, kind⟩
  unfold getItem
  try with_reducible refine wpAny_holding ?_
  first | refine wpAny_bind (wpAny_pure ?_) | skip
  refine wpAny_bind (wpAny_sequenceKey ht.typeIs (by decide) ?_)
  refine wpAny_bind (wpAny_callSpecial?_slot (name := Str.ofString "__getitem__") ht.typeIs PyProof.Rows.slot_tuple_getitem (wpAny_call_entry PyProof.Rows.slot_tuple_getitem ht.typeIs PySem.F.entry_tuple_getitem ?_ (PySem.F.args_tuple_getitem_2 _ _)))
  show wpAny _ _ (Builtin.Tuple.tupleItemsOf (.ref t) >>= _) _ _ s
  refine wpAny_bind (tupleItemsOf_ ht ?_)
  refine wpAny_bind (wpAny_typeOf isSl ?_)
  rw [if_pos (by decide)]
  refine wpAny_bind (applied_back hs pk ?_)
  have no : ¬ (((items.size : Int) - 1 == 0 && (-1 : Int) == 1 && items.size == items.size) = true) := by
    intro z
    rw [Bool.and_eq_true, Bool.and_eq_true] at z
    exact absurd z.1.2 (by decide)
  show wpAny _ _ (if ((items.size : Int) - 1 == 0 && (-1 : Int) == 1 && items.size == items.size) = true then _ else _) _ _ s
  rw [if_neg no, back_pick]
  first
    | exact wpAny_bind (m := Builtin.Tuple.tupleExact _) (wpAny_newObj_type (wpAny_pure ⟨_, rfl, wpAny_pure h⟩) small)
    | exact wpAny_bind (wpAny_bind (m := Builtin.Tuple.tupleExact _) (wpAny_newObj_type (wpAny_pure (wpAny_pure ⟨_, rfl, wpAny_pure h⟩)) small))
    | exact wpAny_bind (m := Builtin.Tuple.tupleExact _) (wpAny_newObj_type (wpAny_bind (wpAny_pure (wpAny_pure ⟨_, rfl, wpAny_pure h⟩))) small)
end
def tRevT (K : PySem.W.Frag) (te : TE) : TE := fun σ H Q => te σ H fun x H1 => ∃ a xs, x = .ref a ∧ SqT K H1 a xs ∧ ∀ p, H1 p = none → Q (.ref p) (upd H1 p (.tup xs.reverse))
theorem pe_revT {X : Cx} {e : Expr} {te : TE} {k : Nat} {p1 p2 p3 pos : Pos} (he : PE X e te) : PE X (.Subscript e (.Slice none none (some (.UnaryOp .USub (.Constant (.int 1) k p1) p2)) p3) pos) (tRevT X.K te) := by
  refine ⟨fun pins s σ H Q I want => Subscript_ (thn (he.run pins s σ H _ I want) fun v s1 got => ?_)⟩
  obtain ⟨x, H1, I1, r1, a, xs, ex, hx, q⟩ := got
  subst ex
  obtain rfl : v = Value.ref a := r1
  have step : PO X (some (.UnaryOp .USub (.Constant (.int 1) k p1) p2)) (tPart (tUn (rU fun i => .int (-i)) (tC (.int 1)))) := po_some (pe_un un_neg pe_int)
  refine wpAny_Slice (thn (po_none.run pins s1 σ H1 (fun o H2 => o = none ∧ H2 = H1) I1 ⟨rfl, rfl⟩) fun vl s2 got2 => ?_)
  obtain ⟨_, _, I2, pl, rfl, rfl⟩ := got2
  refine thn (po_none.run pins s2 σ _ (fun o H3 => o = none ∧ H3 = _) I2 ⟨rfl, rfl⟩) fun vu s3 got3 => ?_
  obtain ⟨_, _, I3, pu, rfl, rfl⟩ := got3
  refine thn (step.run pins s3 σ _ (fun o H4 => o = some (-1) ∧ H4 = _) I3 ⟨1, rfl, -1, rfl, rfl, rfl⟩) fun vk s4 got4 => ?_
  obtain ⟨_, H4, I4, pk, rfl, rfl⟩ := got4
  cases pl
  cases pu
  have I5 : Inv X pins σ H4 { s4 with heap := s4.heap.push { cls := .type "slice", data := .fields #[.none, .none, vk] } } := I4.kept (t' := s4.toks) fun b ob z => Heap.get?_push_of_some _ z
  obtain ⟨its, rel, tup, small⟩ := I5.tuple hx
  have hlen := rel.length
  show wpAny (model X.prog X.w) X.A (subscriptTail e (.Slice none none (some (.UnaryOp .USub (.Constant (.int 1) k p1) p2)) p3) (.ref a) (.ref s4.heap.objs.size)) (EP X pins σ Q) X.xe _
  refine tail_any (ops := [.ref a, .ref s4.heap.objs.size]) tup.typeIs PyProof.Rows.slot_tuple_getitem.lookup ?_ (by with_unfolding_all rfl)
  refine getItem_back tup (Heap.IsSliceOf.new _ .none .none vk) pk (by rw [List.size_toArray]; omega) ?_
  refine ⟨.ref _, _, I5.laid (t' := s4.toks) (o := .tup xs.reverse) (fun b ob z => Heap.get?_push_of_some _ z) (Nat.le_refl _) ?_, rfl, q _ (I5.hok.fresh (Nat.le_refl _))⟩
  exact ⟨by rw [List.length_reverse]; exact small, _, rel.reverse, IsTup.new _ _⟩
/-! ### what is asked of rings -/
def wbelow (lim : Int) : V → Bool
  | .int i => decide (0 ≤ i) && decide (i < lim)
  | _ => false
def unl (lim : Int) : Option (List V) → Bool
  | some xs => xs.all (wbelow lim) && decide xs.Nodup
  | none => false
theorem ints_of {lim : Int} : ∀ {xs : List V}, xs.all (wbelow lim) = true → ∃ ns : List Int, xs = ns.map V.int ∧ ∀ n ∈ ns, 0 ≤ n ∧ n < lim
  | [], _ => ⟨[], rfl, fun n hn => by simp at hn⟩
  | x :: xs, h => by
    rw [List.all_cons, Bool.and_eq_true] at h
    obtain ⟨ns, e, h2⟩ := ints_of h.2
    cases x with
    | int i =>
      have h1 : (decide (0 ≤ i) && decide (i < lim)) = true := h.1
      rw [Bool.and_eq_true, decide_eq_true_iff, decide_eq_true_iff] at h1
      refine ⟨i :: ns, by rw [e]; rfl, fun n hn => ?_⟩
      rcases List.mem_cons.mp hn with z | z
      · rw [z]
        exact h1
      · exact h2 n z
    | _ => exact absurd (show false = true from h.1) Bool.false_ne_true
theorem nodup_ints {ns : List Int} : (ns.map V.int).Nodup ↔ ns.Nodup := by
  unfold List.Nodup
  rw [List.pairwise_map]
  exact ⟨fun h => h.imp fun {a b} g z => g (by rw [z]), fun h => h.imp fun {a b} g z => g (V.int.inj z)⟩
theorem eqv_two (x y u v : Int) : PyData.eqv (intsD [x, y]) (intsD [u, v]) = (decide (u = x) && decide (v = y)) := by
  show PyData.eqv (.tuple [.int x, .int y]) (.tuple [.int u, .int v]) = _
  rw [PyData.eqv, PyData.eqvAll, PyData.eqv, PyData.eqvAll, PyData.eqv, PyData.eqvAll, Bool.and_true]
  rw [Bool.eq_iff_iff, Bool.and_eq_true, Bool.and_eq_true, beq_iff_eq, beq_iff_eq, decide_eq_true_iff, decide_eq_true_iff]
  exact ⟨fun h => ⟨h.1.symm, h.2.symm⟩, fun h => ⟨h.1.symm, h.2.symm⟩⟩
def spBelow : Sp := fun vs H Q _ => ∃ lim v, vs = [.int lim, v] ∧ Kn H v ∧ Q (.bl (wbelow lim v)) H
def spUnlike (Ps : List Addr) : Sp := fun vs H Q _ => ∃ lim v, vs = [.int lim, v] ∧ Kn H v ∧ (∀ xs, parts H v = some xs → (∀ x ∈ xs, Kn H x) ∧ xs.length ≤ 1000) ∧ Tabs Ps H ∧ ∀ H', Kt Ps H H' → Q (.bl (unl lim (parts H v))) H'
def joinB (t : Tie) (a b : Int) : Bool := (decide (t.one = a) && decide (t.other = b)) || (decide (t.one = b) && decide (t.other = a))
def spJoins : Sp := fun vs H Q _ => ∃ (c : Addr) (a b : Int) (t : Tie), vs = [.ref c, .int a, .int b] ∧ H c = some (.tup [.int t.one, .int t.other, .str (kindS t.foe)]) ∧ ∀ H', Same H H' → Q (.bl (joinB t a b)) H'
section
variable {P : Program} {w : World} {K : PySem.W.Frag} {mg : Str → Option Value} {base : Heap}
theorem ok_is_whole_below {f : Addr} {fd : FuncData} (F : Fun K "is_whole_below" "is_whole_below" s_is_whole_below f fd) (D1 : Df P w K mg base 1 "is_whole" ["thing"] spWhole) : FnOk P w K mg base CX0 2 f fd ["limit", "thing"] spBelow := by
  obtain ⟨f1, fd1, G1, g1, k1, b1⟩ := D1
  refine F.ok sc_is_whole_below (fun vs H Q E h => ?_) (fun cdv A outer s H vs Q E hr h => ?_)
  · obtain ⟨lim, v, rfl, _⟩ := h
    rfl
  · obtain ⟨lim, v, rfl, hk, q⟩ := h
    refine ⟨_, (pss_one (ps_ret (pe_and (pe_call G1 hr (by rfl) g1 k1 b1 .nil pass0 (pa_cons (pv 1) pa_nil)) (pe_one (pe_chain op_le op_lt pe_int (pv 1) (pv 0)))))), ?_⟩
    refine ⟨v, rfl, v, rfl, hk, _, rfl, ?_⟩
    cases v with
    | int i =>
      refine ⟨.int i, rfl, 0, i, rfl, rfl, _, rfl, ?_⟩
      have e : wbelow lim (.int i) = (decide (0 ≤ i) && decide (i < lim)) := rfl
      rw [e] at q
      by_cases h0 : (0 : Int) ≤ i
      · rw [decide_eq_true h0] at q ⊢
        rw [Bool.true_and] at q
        exact ⟨.int lim, rfl, i, lim, rfl, rfl, q⟩
      · rw [decide_eq_false h0] at q ⊢
        exact q
    | _ => exact q
theorem ok_are_unlike {f c Pt : Addr} {fd : FuncData} {Ps : List Addr} (F : FunC K "are_unlike_below" "are_unlike_below" s_are_unlike_below f fd c) (TB : GxR.TabB base mg c Pt) (hPt : Pt ∈ Ps) (M : Free mg) (hall : mg "all" = none) (hset : mg "set" = none) (D1 : Df P w K mg base 2 "is_whole_below" ["limit", "thing"] spBelow) : FnOk P w K mg base CX0 4 f fd ["limit", "thing"] (spUnlike Ps) := by
  obtain ⟨f1, fd1, G1, g1, k1, b1⟩ := D1
  refine F.ok sc_are_unlike_below (fun vs H Q E h => ?_) (fun A outer s H vs Q E hr h => ?_)
  · obtain ⟨lim, v, rfl, _⟩ := h
    rfl
  · obtain ⟨lim, v, rfl, hk, hsub, hT, q⟩ := h
    refine ⟨_, (pss_cons (ps_if (pt_not (pt_val (pe_callB call_isi (by rfl) M.isinstance (by decide +kernel) (pa_cons (pv 1) (pa_cons (pe_bltn (v := .ty "tuple") (by rfl) M.tuple (by decide +kernel) rfl) pa_nil)))))
        (pss_one (ps_ret pe_bl))
        pss_nil)
      (pss_one (ps_ret (pe_and (pe_all (k := 2) (own := [("number", 2)]) (g := gName 2) hr TB rfl rfl sc_are_unlike_below.nd (by rfl) hall (pi_tup (pv 1)) (blkOk_by (N := N_are_unlike_below) (sc := defScope s_are_unlike_below) (own := [("number", 2)]) (by decide +kernel)) ⟨rfl, by decide +kernel, by decide +kernel⟩ (show (".0" : Str) ∉ N_are_unlike_below by decide +kernel)
        (fun _ _ _ _ _ _ _ => pg_name (i := 2) sc_are_unlike_below.nd rfl (.inl rfl)) (fun _ _ _ _ _ _ _ hr' => pe_call G1 hr' (by rfl) g1 k1 b1 .nil pass0 (pa_cons (pv 0) (pa_cons (pv 2) pa_nil)))) (pe_one (pe_cmpR op_eq (pe_lenSetT (by rfl) M.len (by rfl) hset (pv 1)) (pe_callB call_len_seq (by rfl) M.len PySem.boot_len (pa_cons (pv 1) pa_nil)) (nomark _))))))), ?_⟩
    obtain ⟨t1, h1, e1⟩ := kn_tup (K := K) hk
    refine ⟨v, rfl, v, _, t1, _, _, rfl, .ty "tuple", h1, e1, _, rfl, ?_⟩
    cases hi : isT H v with
    | false =>
      rw [parts_none hi] at q
      exact q _ (Kt.refl hT)
    | true =>
      obtain ⟨a, xs, rfl, ea⟩ := isT_at hi
      rw [parts_of' ea] at q
      obtain ⟨kn, few⟩ := hsub xs (parts_of' ea)
      refine ⟨.ref a, rfl, a, rfl, ⟨_, SqT.of ea⟩, hT Pt hPt, fun i m H' => i + m = xs.length ∧ Kt Ps H H' ∧ (xs.take i).all (wbelow lim) = true, fun H2 hH2 => ⟨xs.length, by omega, Kt.tabbed hT hPt hH2, rfl⟩, fun i m H' hw => ?_⟩
      obtain ⟨em, kt, hal⟩ := hw
      have ea' := kt.tup hT ea
      by_cases hi : i < xs.length
      · refine .inr ⟨⟨_, _, SqT.of ea', List.getElem?_eq_getElem hi⟩, fun H3 => Kt Ps H H3 ∧ (xs.take (i + 1)).all (wbelow lim) = true, fun H3 n3 => ⟨m - 1, by omega, by omega, n3.1, n3.2⟩, fun x H3 hy => ?_⟩
        obtain ⟨rfl, fy⟩ := hy
        have ex : xs[i]? = some x := fy _ (SqT.of ea')
        refine ⟨rfl, .int lim, rfl, x, rfl, lim, x, rfl, kt.kn hT (kn x (List.mem_of_getElem? ex)), _, rfl, ?_⟩
        have step : (xs.take (i + 1)).all (wbelow lim) = wbelow lim x := by
          rw [List.take_add_one, ex, List.all_append, hal]
          simp
        cases hb : wbelow lim x with
        | true => exact ⟨kt, step.trans hb⟩
        | false =>
          have no : xs.all (wbelow lim) = false := by
            rw [Bool.eq_false_iff]
            intro z
            rw [List.all_eq_true] at z
            rw [z x (List.mem_of_getElem? ex)] at hb
            cases hb
          refine ⟨_, rfl, ?_⟩
          have e : unl lim (some xs) = false := by
            show (xs.all (wbelow lim) && decide xs.Nodup) = false
            rw [no, Bool.false_and]
          rw [e] at q
          exact q _ kt
      · refine .inl ⟨⟨_, SqT.of ea', by omega⟩, _, rfl, ?_⟩
        rw [List.take_of_length_le (by omega)] at hal
        obtain ⟨ns, rfl, _⟩ := ints_of hal
        refine ⟨.ref a, rfl, a, ns, rfl, SqT.of ea', by rw [List.length_map] at few; omega, fun cnt hc => ⟨.ref a, rfl, a, _, rfl, .inr (SqT.of ea'), rfl, ?_⟩⟩
        have e : unl lim (some (ns.map V.int)) = decide (V.int (cnt : Int) = V.int ((ns.map V.int).length : Int)) := by
          show ((ns.map V.int).all (wbelow lim) && decide (ns.map V.int).Nodup) = _
          rw [hal, Bool.true_and, decide_eq_decide, nodup_ints, ← hc, List.length_map]
          constructor
          · intro z
            rw [z]
          · intro z
            have := V.int.inj z
            omega
        rw [← e]
        exact q _ kt
theorem ok_joins {f : Addr} {fd : FuncData} (F : Fun K "joins" "joins" s_joins f fd) : FnOk P w K mg base CX0 1 f fd ["tie", "one", "other"] spJoins := by
  refine F.ok sc_joins (fun vs H Q E h => ?_) (fun cdv A outer s H vs Q E hr h => ?_)
  · obtain ⟨c, a, b, t, rfl, _⟩ := h
    rfl
  · obtain ⟨c, a, b, t, rfl, hc, q⟩ := h
    have hu := room65 hr
    refine ⟨_, (pss_one (ps_ret (pe_cmpR (op_inTup hu) (pe_tup (pa_cons (pe_ix ix_tup (pv 0) pe_int (fun _ _ => rfl)) (pa_cons (pe_ix ix_tup (pv 0) pe_int (fun _ _ => rfl)) pa_nil))) (pe_tup (pa_cons (pe_tup (pa_cons (pv 1) (pa_cons (pv 2) pa_nil))) (pa_cons (pe_tup (pa_cons (pv 2) (pa_cons (pv 1) pa_nil))) pa_nil))) rfl))), ?_⟩
    refine ⟨.ref c, rfl, c, _, 0, _, rfl, rfl, SqT.of hc, rfl, .ref c, rfl, c, _, 1, _, rfl, rfl, SqT.of hc, rfl, by show 2 ≤ sizeLine; decide, fun p1 n1 => ?_⟩
    refine ⟨.int a, rfl, .int b, rfl, by show 2 ≤ sizeLine; decide, fun p2 n2 => ⟨.int b, rfl, .int a, rfl, by show 2 ≤ sizeLine; decide, fun p3 n3 => ⟨by show 2 ≤ sizeLine; decide, fun p4 n4 => ?_⟩⟩⟩
    have s4 := same_new (o := .tup [.ref p2, .ref p3]) n4
    have s3 := (same_new (o := .tup [.int b, .int a]) n3).trans s4
    have s2 := (same_new (o := .tup [.int a, .int b]) n2).trans s3
    have s1 := (same_new (o := .tup [.int t.one, .int t.other]) n1).trans s2
    refine ⟨intsD [t.one, t.other], [intsD [a, b], intsD [b, a]], Dp.tup (SqT.of (s2 _ _ upd_same)) (dp_ints [t.one, t.other]), .tup (SqT.of upd_same) (.cons (Dp.tup (SqT.of (s3 _ _ upd_same)) (dp_ints [a, b])) (.cons (Dp.tup (SqT.of (s4 _ _ upd_same)) (dp_ints [b, a])) .nil)), shaped_intsD _, rfl, ?_⟩
    have e : ([intsD [a, b], intsD [b, a]].any fun z => PyData.eqv z (intsD [t.one, t.other])) = joinB t a b := by
      show (PyData.eqv (intsD [a, b]) (intsD [t.one, t.other]) || (PyData.eqv (intsD [b, a]) (intsD [t.one, t.other]) || false)) = joinB t a b
      rw [eqv_two, eqv_two, Bool.or_false]
      rfl
    rw [e]
    exact q _ s1
end
theorem tieAt_get {ts : List Tie} {i : Int} (h0 : 0 ≤ i) (h1 : i < ts.length) : ts[i.toNat]? = some (tieAt ts i) := by
  have h : i.toNat < ts.length := by omega
  unfold tieAt
  rw [List.getD_eq_getElem?_getD, List.getElem?_eq_getElem h]
  rfl
def toI : V → Int
  | .int i => i
  | _ => 0
theorem toI_map (ns : List Int) : (ns.map V.int).map toI = ns := by
  rw [List.map_map]
  exact List.map_id ns
/-- the ties join the places, each with the one behind it -/
def ringI (ts : List Tie) (ps es : List Int) : Bool := (List.range es.length).all fun k => joinB (tieAt ts (es.getD k 0)) (ps.getD k 0) (ps.getD ((k + 1) % ps.length) 0)
def ringP (n : Int) (ts : List Tie) : Option (List V) → Option (List V) → Bool
  | some ps, some es => unl n (some ps) && (unl ts.length (some es) && (decide (2 ≤ ps.length) && (decide (ps.length = es.length) && ringI ts (ps.map toI) (es.map toI))))
  | _, _ => false
def ringB (H : Hp) (n : Int) (ts : List Tie) (v : V) : Bool := match parts H v with
  | some [p, t] => ringP n ts (parts H p) (parts H t)
  | _ => false
def Part2 (H : Hp) (x : V) : Prop := Kn H x ∧ ∀ ys, parts H x = some ys → (∀ y ∈ ys, Kn H y) ∧ ys.length ≤ 1000
def Thing2 (H : Hp) (v : V) : Prop := Kn H v ∧ ∀ xs, parts H v = some xs → ∀ x ∈ xs, Part2 H x
theorem kt_parts {Ps : List Addr} {H H' : Hp} (k : Kt Ps H H') (t : Tabs Ps H) {v : V} (h : Kn H v) : parts H' v = parts H v := by
  cases v with
  | ref a =>
    unfold parts
    rcases h with ⟨xs, h⟩ | ⟨xs, h⟩ | ⟨xs, h⟩
    · simp only [h, k.lst t h]
    · simp only [h, k.tup t h]
    · simp only [h, k.dct t h]
  | _ => rfl
theorem Part2.kt {Ps : List Addr} {H H' : Hp} (k : Kt Ps H H') (t : Tabs Ps H) {v : V} (h : Part2 H v) : Part2 H' v :=
  ⟨k.kn t h.1, fun ys e => by
    rw [kt_parts k t h.1] at e
    obtain ⟨h1, h2⟩ := h.2 ys e
    exact ⟨fun y hy => k.kn t (h1 y hy), h2⟩⟩
def spRing (Ps : List Addr) : Sp := fun vs H Q _ => ∃ (wv : V) (n : Int) (ts : List Tie) (v : V), vs = [wv, v] ∧ WebAt H wv n ts ∧ WebOk n ts ∧ Thing2 H v ∧ Tabs Ps H ∧ ∀ H', Kt Ps H H' → Q (.bl (ringB H n ts v)) H'
theorem behind {ns : List Int} {k : Nat} (h2 : 2 ≤ ns.length) (hk : k < ns.length) : (ns.drop 1 ++ ns.take 1)[k]? = some (ns.getD ((k + 1) % ns.length) 0) := by
  by_cases e : k + 1 < ns.length
  · rw [List.getElem?_append_left (by rw [List.length_drop]; omega), List.getElem?_drop, Nat.mod_eq_of_lt e, show 1 + k = k + 1 from by omega, List.getD_eq_getElem?_getD, List.getElem?_eq_getElem e]
    rfl
  · have e2 : k + 1 = ns.length := by omega
    rw [List.getElem?_append_right (by rw [List.length_drop]; omega), List.length_drop, show k - (ns.length - 1) = 0 from by omega, e2, Nat.mod_self, List.getElem?_take_of_lt (by decide), List.getD_eq_getElem?_getD, List.getElem?_eq_getElem (by omega)]
    rfl
theorem cut1a {xs : List V} (h : 1 ≤ xs.length) : cutV xs (some 1) none = xs.drop 1 := by
  unfold cutV
  rw [HT.sIx_none, show (some (1 : Int)) = some ((1 : Nat) : Int) from rfl, HT.sIx_nat, Nat.min_eq_left h]
  exact List.take_of_length_le (by rw [List.length_drop]; omega)
theorem cut1b {xs : List V} (h : 1 ≤ xs.length) : cutV xs none (some 1) = xs.take 1 := by
  unfold cutV
  rw [HT.sIx_none, show (some (1 : Int)) = some ((1 : Nat) : Int) from rfl, HT.sIx_nat, Nat.min_eq_left h, List.drop_zero]
section
variable {P : Program} {w : World} {K : PySem.W.Frag} {mg : Str → Option Value} {base : Heap}
set_option maxHeartbeats 4000000 in
theorem ok_ring_holds {f c Pt : Addr} {fd : FuncData} {Ps : List Addr} (F : FunC K "ring_holds" "ring_holds" s_ring_holds f fd c) (TB : GxR.TabB base mg c Pt) (hPt : Pt ∈ Ps) (M : Free mg) (hall : mg "all" = none) (mz : mg "zip" = none) (D1 : Df P w K mg base 1 "is_tuple_of" ["length", "thing"] spTupleOf)
    (D2 : Df P w K mg base 4 "are_unlike_below" ["limit", "thing"] (spUnlike Ps)) (D3 : Df P w K mg base 1 "joins" ["tie", "one", "other"] spJoins) : FnOk P w K mg base CX0 5 f fd ["web", "thing"] (spRing Ps) := by
  obtain ⟨f1, fd1, G1, g1, k1, b1⟩ := D1
  obtain ⟨f2, fd2, G2, g2, k2, b2⟩ := D2
  obtain ⟨f3, fd3, G3, g3, k3, b3⟩ := D3
  refine F.ok sc_ring_holds (fun vs H Q E h => ?_) (fun A outer s H vs Q E hr h => ?_)
  · obtain ⟨wv, n, ts, v, rfl, _⟩ := h
    rfl
  · obtain ⟨wv, n, ts, v, rfl, ⟨wa, wb, us, rfl, hwa, hwb, hp⟩, ok, ⟨hk, hsub⟩, hT, q⟩ := h
    have hr1 : Room 1 _ := hr.mono (by decide : 1 ≤ 4)
    refine ⟨_, (pss_cons (ps_if (pt_not (pt_val (pe_call G1 hr1 (by rfl) g1 k1 b1 .nil pass0 (pa_cons pe_int (pa_cons (pv 1) pa_nil)))))
        (pss_one (ps_ret pe_bl))
        pss_nil)
      (pss_cons (ps_asg (pv 1) (pg_tup rfl (pgs_cons (pg_name (i := 2) sc_ring_holds.nd rfl (.inl rfl)) (pgs_cons (pg_name (i := 3) sc_ring_holds.nd rfl (.inl rfl)) pgs_nil))))
      (pss_cons (ps_if (PW.pt (pw_or (pt_not (pt_val (pe_call G2 hr (by rfl) g2 k2 b2 .nil pass0 (pa_cons (pe_ix ix_tup (pv 0) pe_int (fun _ _ => rfl)) (pa_cons (pv 2) pa_nil))))) (pw_or1 (pt_not (pt_val (pe_call G2 hr (by rfl) g2 k2 b2 .nil pass0 (pa_cons (pe_callB call_len_seq (by rfl) M.len PySem.boot_len (pa_cons (pe_ix ix_tup (pv 0) pe_int (fun _ _ => rfl)) pa_nil)) (pa_cons (pv 3) pa_nil))))))))
        (pss_one (ps_ret pe_bl))
        pss_nil)
      (pss_cons (ps_if (PW.pt (pw_or (pt_cmpR op_lt (pe_callB call_len_seq (by rfl) M.len PySem.boot_len (pa_cons (pv 2) pa_nil)) pe_int (nomark _)) (pw_or1 (pt_cmpR op_ne (pe_callB call_len_seq (by rfl) M.len PySem.boot_len (pa_cons (pv 2) pa_nil)) (pe_callB call_len_seq (by rfl) M.len PySem.boot_len (pa_cons (pv 3) pa_nil)) (nomark _)))))
        (pss_one (ps_ret pe_bl))
        pss_nil)
      (pss_cons (ps_set (i := 4) sc_ring_holds.nd rfl (.inl rfl) (pe_op op_catU (pe_slice sl_tupU (pv 2) (po_some pe_int) po_none) (pe_slice sl_tupU (pv 2) po_none (po_some pe_int))))
      (pss_one (ps_ret (pe_all (k := 3) (own := [("tie", 5), ("one", 6), ("other", 7)]) (g := gTup K 3 (gCons (gName 5) (gCons (gName 6) (gCons (gName 7) gNil)))) hr TB rfl rfl sc_ring_holds.nd (by rfl) hall (pi_zip3 (by rfl) mz (pa_cons (pv 3) (pa_cons (pv 2) (pa_cons (pv 4) pa_nil)))) (blkOk_by (N := N_ring_holds) (sc := defScope s_ring_holds) (own := [("tie", 5), ("one", 6), ("other", 7)]) (by decide +kernel)) ⟨rfl, by decide +kernel, by decide +kernel⟩ (show (".0" : Str) ∉ N_ring_holds by decide +kernel)
        (fun _ _ _ _ _ _ _ => pg_tup rfl (pgs_cons (pg_name (i := 5) sc_ring_holds.nd rfl (.inl rfl)) (pgs_cons (pg_name (i := 6) sc_ring_holds.nd rfl (.inl rfl)) (pgs_cons (pg_name (i := 7) sc_ring_holds.nd rfl (.inl rfl)) pgs_nil)))) (fun _ _ _ _ _ _ _ hr' => pe_call G3 (hr'.mono (by decide : 1 ≤ 3)) (by rfl) g3 k3 b3 .nil pass0 (pa_cons (pe_ix (r := rIxT K) ix_tup (pe_ix (r := rIxT K) ix_tup (pv 0) pe_int (fun _ _ => rfl)) (pv 5) (fun _ _ => rfl)) (pa_cons (pv 6) (pa_cons (pv 7) pa_nil)))))))))))), ?_⟩
    have hlen : us.length = ts.length := Paired.length hp
    have few := ok.few
    -- a pair
    refine ⟨v, rfl, 2, v, rfl, hk, _, rfl, ?_⟩
    cases hpv : parts H v with
    | none =>
      have e1 : lenIs H v 2 = false := by unfold lenIs; rw [hpv]
      have e2 : ringB H n ts v = false := by unfold ringB; rw [hpv]
      rw [e1]
      rw [e2] at q
      exact q _ (Kt.refl hT)
    | some xs =>
    obtain ⟨a, rfl, ea⟩ := parts_at hpv
    have e1 : lenIs H (.ref a) 2 = decide ((xs.length : Int) = 2) := by unfold lenIs; rw [hpv]
    rw [e1]
    match xs, hpv, ea, hsub xs hpv with
    | [], hpv, ea, _ =>
      have e2 : ringB H n ts (.ref a) = false := by unfold ringB; rw [hpv]
      rw [e2] at q
      exact q _ (Kt.refl hT)
    | [x], hpv, ea, _ =>
      have e2 : ringB H n ts (.ref a) = false := by unfold ringB; rw [hpv]
      rw [e2] at q
      exact q _ (Kt.refl hT)
    | x :: y :: z :: r, hpv, ea, _ =>
      have e2 : ringB H n ts (.ref a) = false := by unfold ringB; rw [hpv]
      rw [e2] at q
      rw [decide_eq_false (by simp only [List.length_cons]; omega)]
      exact q _ (Kt.refl hT)
    | [pv', tv], hpv, ea, hxs =>
    have e2 : ringB H n ts (.ref a) = ringP n ts (parts H pv') (parts H tv) := by unfold ringB; rw [hpv]
    rw [e2] at q
    have hP := hxs pv' (by simp)
    have hQ := hxs tv (by simp)
    clear e1 e2 hxs hsub
    refine ⟨.ref a, rfl, a, _, rfl, SqT.of ea, rfl, _, _, rfl, _, _, rfl, rfl, ?_⟩
    -- unlike places
    refine ⟨.ref wa, rfl, wa, _, 0, .int n, rfl, rfl, SqT.of hwa, rfl, pv', rfl, n, pv', rfl, hP.1, hP.2, hT, fun H1 k1' => ⟨_, rfl, ?_⟩⟩
    cases hu1 : unl n (parts H pv') with
    | false =>
      have e : ringP n ts (parts H pv') (parts H tv) = false := by
        cases h1 : parts H pv' with
        | none => rfl
        | some ps =>
          cases h2 : parts H tv with
          | none => rfl
          | some es =>
            rw [h1] at hu1
            show (unl n (some ps) && _) = false
            rw [hu1, Bool.false_and]
      rw [e] at q
      exact q _ k1'
    | true =>
    -- unlike ties
    have hwa1 := k1'.tup hT hwa
    have hwb1 := k1'.tup hT hwb
    have hQ1 := hQ.kt k1' hT
    refine ⟨.ref wa, rfl, wa, _, 1, .ref wb, rfl, rfl, SqT.of hwa1, rfl, wb, us, rfl, .inr (SqT.of hwb1), tv, rfl, _, tv, rfl, hQ1.1, hQ1.2, k1'.tab, fun H2 k2' => ⟨_, rfl, ?_⟩⟩
    rw [kt_parts k1' hT hQ.1, hlen]
    have k12 := k1'.trans k2'
    cases hu2 : unl ts.length (parts H tv) with
    | false =>
      have e : ringP n ts (parts H pv') (parts H tv) = false := by
        cases h1 : parts H pv' with
        | none => rfl
        | some ps =>
          cases h2 : parts H tv with
          | none => rfl
          | some es =>
            rw [h1] at hu1
            rw [h2] at hu2
            show (unl n (some ps) && (unl ts.length (some es) && _)) = false
            rw [hu2, Bool.false_and, Bool.and_false]
      rw [e] at q
      exact q _ k12
    | true =>
    cases h1 : parts H pv' with
    | none => rw [h1] at hu1; cases hu1
    | some ps =>
    cases h2 : parts H tv with
    | none => rw [h2] at hu2; cases hu2
    | some es =>
    rw [h1] at hu1
    rw [h2] at hu2
    rw [h1, h2] at q
    obtain ⟨pa, rfl, epa⟩ := parts_at h1
    obtain ⟨ta, rfl, eta⟩ := parts_at h2
    have epa2 := k12.tup hT epa
    have eta2 := k12.tup hT eta
    have er : ringP n ts (some ps) (some es) = (decide (2 ≤ ps.length) && (decide (ps.length = es.length) && ringI ts (ps.map toI) (es.map toI))) := by
      show (unl n (some ps) && (unl ts.length (some es) && _)) = _
      rw [hu1, hu2, Bool.true_and, Bool.true_and]
    rw [er] at q
    -- lengths
    refine ⟨.ref pa, rfl, pa, ps, rfl, .inr (SqT.of epa2), _, 2, rfl, rfl, _, rfl, ?_⟩
    by_cases l2 : 2 ≤ ps.length
    · rw [decide_eq_false (show ¬ ((ps.length : Int) < 2) by omega)]
      rw [decide_eq_true l2, Bool.true_and] at q
      refine ⟨.ref pa, rfl, pa, ps, rfl, .inr (SqT.of epa2), .ref ta, rfl, ta, es, rfl, .inr (SqT.of eta2), rfl, _, rfl, ?_⟩
      by_cases le : ps.length = es.length
      · rw [show decide (V.int (ps.length : Int) = V.int (es.length : Int)) = true from decide_eq_true (by rw [le])]
        rw [decide_eq_true le, Bool.true_and] at q
        have ha1 : ps.all (wbelow n) = true := (Bool.and_eq_true_iff.mp hu1).1
        have ha2 : es.all (wbelow ts.length) = true := (Bool.and_eq_true_iff.mp hu2).1
        obtain ⟨pn, rfl, hpn⟩ := ints_of ha1
        obtain ⟨en, rfl, hen⟩ := ints_of ha2
        rw [toI_map, toI_map] at q
        rw [List.length_map] at l2 le
        rw [List.length_map] at le
        have lps : pn.length ≤ 1000 := by have := (hP.2 _ h1).2; rw [List.length_map] at this; exact this
        -- followers
        refine ⟨.ref pa, rfl, 1, rfl, pa, _, rfl, epa2, fun r1 H3 s3 h3 => ⟨.ref pa, rfl, 1, rfl, pa, _, rfl, s3 _ _ epa2, fun r2 H4 s4 h4 => ⟨r1, r2, _, _, rfl, rfl, s4 _ _ h3, h4, ?_, fun r3 H5 s5 h5 => ?_⟩⟩⟩
        · have z1 := cutV_length (pn.map V.int) (some 1) none
          have z2 := cutV_length (pn.map V.int) none (some 1)
          rw [List.length_map] at z1 z2
          omega
        rw [cut1a (by rw [List.length_map]; omega), cut1b (by rw [List.length_map]; omega), ← List.map_drop, ← List.map_take, ← List.map_append] at h5
        have k5 := k12.trans (Kt.same k12.tab ((s3.trans s4).trans s5))
        have hwa5 := k5.tup hT hwa
        have hwb5 := k5.tup hT hwb
        have epa5 := k5.tup hT epa
        have eta5 := k5.tup hT eta
        have hp5 := ties_tk (k5.tk hT) hp
        clear s3 s4 s5 h3 h4 epa2 eta2 hwa1 hwb1
        have lfo : (pn.drop 1 ++ pn.take 1).length = pn.length := by rw [List.length_append, List.length_drop, List.length_take]; omega
        have nth : ∀ k : Nat, k < en.length → ∃ (cc : Addr), H5 cc = some (.tup [.int (tieAt ts (en.getD k 0)).one, .int (tieAt ts (en.getD k 0)).other, .str (kindS (tieAt ts (en.getD k 0)).foe)]) ∧ atI us (en.getD k 0) = some (.ref cc) := fun k hk => by
          have hm : en.getD k 0 ∈ en := by
            rw [List.getD_eq_getElem?_getD, List.getElem?_eq_getElem hk]
            exact List.getElem_mem hk
          obtain ⟨z0, z1⟩ := hen _ hm
          obtain ⟨u, eu, cc, rfl, hcc⟩ := Paired.at' hp5 (tieAt_get z0 z1)
          exact ⟨cc, hcc, atI_of z0 eu⟩
        refine ⟨.ref ta, rfl, .ref pa, rfl, .ref r3, rfl, ta, pa, r3, _, _, _, rfl, SqT.of eta5, SqT.of epa5, SqT.of h5, k5.tab Pt hPt, fun i m H' => i + m = en.length ∧ Kt Ps H5 H' ∧ (List.range i).all (fun k => joinB (tieAt ts (en.getD k 0)) (pn.getD k 0) (pn.getD ((k + 1) % pn.length) 0)) = true, fun H6 t6 => ⟨en.length, by omega, Kt.tabbed k5.tab hPt t6, rfl⟩, fun i m H6 hw => ?_⟩
        obtain ⟨em, k6, hal⟩ := hw
        have eta6 := k6.tup k5.tab eta5
        have epa6 := k6.tup k5.tab epa5
        have h6 := k6.tup k5.tab h5
        by_cases hi : i < en.length
        · refine .inr ⟨⟨_, _, _, ⟨SqT.of eta6, SqT.of epa6, SqT.of h6⟩, by rw [List.length_map]; exact hi, by rw [List.length_map, List.length_map]; exact le, by rw [List.length_map, List.length_map, lfo]; exact le⟩, fun H7 => Kt Ps H5 H7 ∧ (List.range (i + 1)).all (fun k => joinB (tieAt ts (en.getD k 0)) (pn.getD k 0) (pn.getD ((k + 1) % pn.length) 0)) = true, fun H7 n7 => ⟨m - 1, by omega, by omega, n7.1, n7.2⟩, fun x H7 hy => ?_⟩
          obtain ⟨T, x1, x2, x3, rfl, nT, rfl, y1, y2, y3⟩ := hy
          have ex1 : x1 = .int (en.getD i 0) := by
            have z := y1 _ (SqT.of eta6)
            rw [List.getElem?_map, List.getElem?_eq_getElem hi] at z
            rw [List.getD_eq_getElem?_getD, List.getElem?_eq_getElem hi]
            exact (Option.some.inj z).symm
          have ex2 : x2 = .int (pn.getD i 0) := by
            have z := y2 _ (SqT.of epa6)
            rw [List.getElem?_map, List.getElem?_eq_getElem (show i < pn.length by omega)] at z
            rw [List.getD_eq_getElem?_getD, List.getElem?_eq_getElem (show i < pn.length by omega)]
            exact (Option.some.inj z).symm
          have ex3 : x3 = .int (pn.getD ((i + 1) % pn.length) 0) := by
            have z := y3 _ (SqT.of h6)
            rw [List.getElem?_map, behind l2 (by omega)] at z
            exact (Option.some.inj z).symm
          subst ex1
          subst ex2
          subst ex3
          obtain ⟨cc, hcc, acc⟩ := nth i hi
          have k7 := k6.trans (Kt.same k6.tab (same_new (o := .tup [.int (en.getD i 0), .int (pn.getD i 0), .int (pn.getD ((i + 1) % pn.length) 0)]) nT))
          refine ⟨T, _, rfl, SqT.of upd_same, rfl, _, _, rfl, _, _, rfl, _, _, rfl, rfl, rfl, .ref wa, rfl, wa, _, 1, .ref wb, rfl, rfl, SqT.of (k7.tup k5.tab hwa5), rfl, .int (en.getD i 0), rfl, wb, us, _, .ref cc, rfl, rfl, SqT.of (k7.tup k5.tab hwb5), acc, .int (pn.getD i 0), rfl, .int (pn.getD ((i + 1) % pn.length) 0), rfl, cc, _, _, tieAt ts (en.getD i 0), rfl, k7.tup k5.tab hcc, fun H8 s8 => ⟨_, rfl, ?_⟩⟩
          have k8 := k7.trans (Kt.same k7.tab s8)
          cases hj : joinB (tieAt ts (en.getD i 0)) (pn.getD i 0) (pn.getD ((i + 1) % pn.length) 0) with
          | true =>
            refine ⟨k8, ?_⟩
            rw [List.range_succ, List.all_append, hal]
            simp only [List.all_cons, List.all_nil, hj, Bool.and_true]
          | false =>
            have no : ringI ts pn en = false := by
              unfold ringI
              rw [Bool.eq_false_iff]
              intro z
              rw [List.all_eq_true] at z
              rw [z i (List.mem_range.mpr hi)] at hj
              cases hj
            rw [no] at q
            exact q _ (k5.trans k8)
        · have ei : i = en.length := by omega
          refine .inl ⟨⟨_, _, _, ⟨SqT.of eta6, SqT.of epa6, SqT.of h6⟩, by rw [List.length_map, ei], by rw [List.length_map, ei]; exact le, by rw [List.length_map, lfo, ei]; exact le⟩, ?_⟩
          rw [ei] at hal
          have yes : ringI ts pn en = true := hal
          rw [yes] at q
          exact q _ (k5.trans k6)
      · rw [show decide (V.int (ps.length : Int) = V.int (es.length : Int)) = false from decide_eq_false (fun z => le (by have := V.int.inj z; omega))]
        rw [decide_eq_false le, Bool.false_and] at q
        exact q _ k12
    · rw [decide_eq_true (show ((ps.length : Int) < 2) by omega)]
      rw [decide_eq_false l2, Bool.false_and] at q
      exact q _ k12
end
def foesI (ts : List Tie) (es : List Int) : Nat := (es.filter fun e => (tieAt ts e).foe).length
theorem foesI_take (ts : List Tie) (es : List Int) {i : Nat} {e : Int} (h : es[i]? = some e) : (es.take (i + 1)).filter (fun e => (tieAt ts e).foe) = (es.take i).filter (fun e => (tieAt ts e).foe) ++ (if (tieAt ts e).foe = true then [e] else []) := by
  rw [List.take_add_one, h, List.filter_append]
  congr 1
  show List.filter _ [e] = _
  rw [List.filter_cons]
  rfl
def spFoes : Sp := fun vs H Q _ => ∃ (wv : V) (n : Int) (ts : List Tie) (a ta : Addr) (p : V) (es : List Int), vs = [wv, .ref a] ∧ WebAt H wv n ts ∧ H a = some (.tup [p, .ref ta]) ∧ H ta = some (.tup (es.map V.int)) ∧ (∀ e ∈ es, 0 ≤ e ∧ e < (ts.length : Int)) ∧ es.length ≤ 1000 ∧
  ∀ H', Same H H' → Q (.int (foesI ts es)) H'
/-- a ring with an odd number of foes -/
def oddB (H : Hp) (n : Int) (ts : List Tie) (v : V) : Bool := ringB H n ts v && (match parts H v with
  | some [_, t] => (match parts H t with
    | some es => decide (foesI ts (es.map toI) % 2 = 1)
    | none => false)
  | _ => false)
def spOdd (Ps : List Addr) : Sp := fun vs H Q _ => ∃ (wv : V) (n : Int) (ts : List Tie) (v : V), vs = [wv, v] ∧ WebAt H wv n ts ∧ WebOk n ts ∧ Thing2 H v ∧ Tabs Ps H ∧ ∀ H', Kt Ps H H' → Q (.bl (oddB H n ts v)) H'
/-- what a ring is: a pair of rows of numbers -/
theorem ring_is {H : Hp} {n : Int} {ts : List Tie} {v : V} (h : ringB H n ts v = true) : ∃ (a pa ta : Addr) (pn en : List Int), v = .ref a ∧ H a = some (.tup [.ref pa, .ref ta]) ∧ H pa = some (.tup (pn.map V.int)) ∧ H ta = some (.tup (en.map V.int)) ∧ (∀ p ∈ pn, 0 ≤ p ∧ p < n) ∧ (∀ e ∈ en, 0 ≤ e ∧ e < (ts.length : Int)) ∧ pn.Nodup ∧ en.Nodup ∧ 2 ≤ pn.length ∧ pn.length = en.length ∧ ringI ts pn en = true := by
  unfold ringB at h
  cases hpv : parts H v with
  | none => rw [hpv] at h; cases h
  | some xs =>
    rw [hpv] at h
    obtain ⟨a, rfl, ea⟩ := parts_at hpv
    match xs, h, ea with
    | [p, t], h, ea =>
      change ringP n ts (parts H p) (parts H t) = true at h
      cases h1 : parts H p with
      | none => rw [h1] at h; cases h
      | some ps =>
        cases h2 : parts H t with
        | none => rw [h1, h2] at h; cases h
        | some es =>
          rw [h1, h2] at h
          obtain ⟨pa, rfl, epa⟩ := parts_at h1
          obtain ⟨ta, rfl, eta⟩ := parts_at h2
          change (unl n (some ps) && (unl ts.length (some es) && (decide (2 ≤ ps.length) && (decide (ps.length = es.length) && ringI ts (ps.map toI) (es.map toI))))) = true at h
          simp only [Bool.and_eq_true, decide_eq_true_iff] at h
          obtain ⟨u1, u2, l2, le, hr⟩ := h
          have v1 : ps.all (wbelow n) = true ∧ decide ps.Nodup = true := Bool.and_eq_true_iff.mp u1
          have v2 : es.all (wbelow ts.length) = true ∧ decide es.Nodup = true := Bool.and_eq_true_iff.mp u2
          obtain ⟨pn, rfl, hpn⟩ := ints_of v1.1
          obtain ⟨en, rfl, hen⟩ := ints_of v2.1
          rw [toI_map, toI_map] at hr
          rw [List.length_map] at l2 le
          rw [List.length_map] at le
          exact ⟨a, pa, ta, pn, en, rfl, ea, epa, eta, hpn, hen, nodup_ints.mp (of_decide_eq_true v1.2), nodup_ints.mp (of_decide_eq_true v2.2), l2, le, hr⟩
section
variable {P : Program} {w : World} {K : PySem.W.Frag} {mg : Str → Option Value} {base : Heap}
theorem ok_foes_in {f : Addr} {fd : FuncData} (F : Fun K "foes_in" "foes_in" s_foes_in f fd) (M : Free mg) : FnOk P w K mg base CX0 1 f fd ["web", "ring"] spFoes := by
  refine F.ok sc_foes_in (fun vs H Q E h => ?_) (fun cdv A outer s H vs Q E hr h => ?_)
  · obtain ⟨wv, n, ts, a, ta, p, es, rfl, _⟩ := h
    rfl
  · obtain ⟨wv, n, ts, a, ta, p, es, rfl, ⟨wa, wb, us, rfl, hwa, hwb, hp⟩, ha, hta, hes, lm, q⟩ := h
    refine ⟨_, (pss_one (ps_ret (pe_callB call_len_seq (by rfl) M.len PySem.boot_len (pa_cons (pe_lc (own := [("tie", 2)]) (g := gName 2) (te := tVar 2) rfl sc_foes_in.nd (pi_tup (pe_ix ix_tup (pv 1) pe_int (fun _ _ => rfl))) (blkOk_by (N := N_foes_in) (sc := defScope s_foes_in) (own := [("tie", 2)]) (by decide +kernel)) (fun _ _ _ _ _ => (pg_name (i := 2) sc_foes_in.nd rfl (.inl rfl))) (fun _ _ _ _ _ => (pts_one (pt_cmpR op_eq (pe_ix (r := rIxT K) ix_tup (pe_ix (r := rIxT K) ix_tup (pe_ix (r := rIxT K) ix_tup (pv 0) pe_int (fun _ _ => rfl)) (pv 2) (fun _ _ => rfl)) pe_int (fun _ _ => rfl)) pe_str (nomark _)))) (fun _ _ _ _ _ => (pv 2))) pa_nil)))), ?_⟩
    refine ⟨.ref a, rfl, a, _, 1, .ref ta, rfl, rfl, SqT.of ha, rfl, ta, rfl, ⟨_, SqT.of hta⟩, fun Z nZ => ?_⟩
    refine lc_tup (xs := es.map V.int) (fun j H' => H' = upd H Z (.lst (((es.take j).filter fun e => (tieAt ts e).foe).map V.int))) rfl (fun j H' _ h => by rw [h]; exact SqT.of (same_new nZ _ _ hta)) ?_ ?_
    · rintro j x H' ex rfl
      rw [List.getElem?_map] at ex
      obtain ⟨e, he, rfl⟩ := Option.map_eq_some_iff.mp ex
      obtain ⟨z0, z1⟩ := hes e (List.mem_of_getElem? he)
      have hj := (List.getElem?_eq_some_iff.mp he).1
      have s1 := same_new (o := .lst (((es.take j).filter fun e => (tieAt ts e).foe).map V.int)) nZ
      obtain ⟨u, eu, cc, rfl, hcc⟩ := Paired.at' hp (tieAt_get z0 z1)
      refine ⟨rfl, .ref wa, rfl, wa, _, 1, .ref wb, rfl, rfl, SqT.of (s1 _ _ hwa), rfl, .int e, rfl, wb, us, e, .ref cc, rfl, rfl, SqT.of (s1 _ _ hwb), atI_of z0 eu, cc, _, 2, _, rfl, rfl, SqT.of (s1 _ _ hcc), rfl, rfl, _, rfl, ?_⟩
      rw [foesI_take ts es he, List.map_append]
      have lf : ((es.take j).filter fun e => (tieAt ts e).foe).length ≤ j := by
        have := List.length_filter_le (fun e => (tieAt ts e).foe) (es.take j)
        rw [List.length_take] at this
        omega
      cases hf : (tieAt ts e).foe with
      | true =>
        refine ⟨.int e, rfl, _, upd_same, by rw [List.length_map]; exact small1000 (by omega), ?_⟩
        funext b
        by_cases eb : b = Z
        · subst eb
          rw [upd_same, upd_same]
          rfl
        · rw [upd_ne eb, upd_ne eb, upd_ne eb]
      | false =>
        show upd H Z _ = upd H Z (.lst (((es.take j).filter fun e => (tieAt ts e).foe).map V.int ++ []))
        rw [List.append_nil]
    · rintro H' rfl
      rw [List.length_map, List.take_length]
      refine ⟨Z, _, rfl, .inl (SqL.of upd_same), ?_⟩
      rw [List.length_map]
      exact q _ (same_new nZ)
theorem ok_odd_ring {f : Addr} {fd : FuncData} {Ps : List Addr} (F : Fun K "odd_ring_holds" "odd_ring_holds" s_odd_ring_holds f fd) (D1 : Df P w K mg base 5 "ring_holds" ["web", "thing"] (spRing Ps)) (D2 : Df P w K mg base 1 "foes_in" ["web", "ring"] spFoes) : FnOk P w K mg base CX0 6 f fd ["web", "thing"] (spOdd Ps) := by
  obtain ⟨f1, fd1, G1, g1, k1, b1⟩ := D1
  obtain ⟨f2, fd2, G2, g2, k2, b2⟩ := D2
  refine F.ok sc_odd_ring_holds (fun vs H Q E h => ?_) (fun cdv A outer s H vs Q E hr h => ?_)
  · obtain ⟨wv, n, ts, v, rfl, _⟩ := h
    rfl
  · obtain ⟨wv, n, ts, v, rfl, hW, ok, hv, hT, q⟩ := h
    have hr1 : Room 1 _ := hr.mono (by decide : 1 ≤ 5)
    refine ⟨_, (pss_one (ps_ret (pe_and (pe_call G1 hr (by rfl) g1 k1 b1 .nil pass0 (pa_cons (pv 0) (pa_cons (pv 1) pa_nil))) (pe_one (pe_cmpR op_eq (pe_op op_mod (pe_call G2 hr1 (by rfl) g2 k2 b2 .nil pass0 (pa_cons (pv 0) (pa_cons (pv 1) pa_nil))) pe_int) pe_int (nomark _)))))), ?_⟩
    refine ⟨wv, rfl, v, rfl, wv, n, ts, v, rfl, hW, ok, hv, hT, fun H1 k => ⟨_, rfl, ?_⟩⟩
    cases hb : ringB H n ts v with
    | false =>
      have e : oddB H n ts v = false := by unfold oddB; rw [hb, Bool.false_and]
      rw [e] at q
      exact q _ k
    | true =>
      obtain ⟨a, pa, ta, pn, en, rfl, ea, epa, eta, _, hen, _, ndE, _, le, _⟩ := ring_is hb
      have lm : en.length ≤ 1000 := by
        have z := (hv.2 _ (parts_of' ea) (.ref ta) (by simp)).2 _ (parts_of' eta)
        have := z.2
        rw [List.length_map] at this
        exact this
      refine ⟨wv, rfl, .ref a, rfl, wv, n, ts, a, ta, .ref pa, en, rfl, hW.tk (k.tk hT), k.tup hT ea, k.tup hT eta, hen, lm, fun H2 s2 => ⟨_, 2, rfl, rfl, show (0 : Int) < 2 by decide, rfl, ?_⟩⟩
      have e : oddB H n ts (.ref a) = decide (V.int ((foesI ts en : Nat) % 2 : Int) = V.int 1) := by
        unfold oddB
        rw [hb, parts_of' ea]
        simp only [parts_of' eta, toI_map, Bool.true_and]
        rw [decide_eq_decide]
        constructor
        · intro z
          congr 1
          omega
        · intro z
          have := V.int.inj z
          omega
      rw [← e]
      exact q _ (k.trans (Kt.same k.tab s2))
end
/-! ### rising rows -/
def ltV : V → V → Bool
  | .int a, .int b => decide (a < b)
  | _, _ => false
def chainB (xs : List V) : Bool := (xs.zip (xs.drop 1)).all fun p => ltV p.1 p.2
def riseB (H : Hp) (lim : Int) (v : V) : Bool := match parts H v with
  | some xs => xs.all (wbelow lim) && chainB xs
  | none => false
def RowK (H : Hp) (v : V) : Prop := Kn H v ∧ ∀ xs, parts H v = some xs → (∀ x ∈ xs, Kn H x) ∧ xs.length ≤ 1000
def spRising (Ps : List Addr) : Sp := fun vs H Q _ => ∃ (lim : Int) (v : V), vs = [.int lim, v] ∧ RowK H v ∧ Tabs Ps H ∧ ∀ H', Kt Ps H H' → Q (.bl (riseB H lim v)) H'
theorem take_all {α : Type} {xs : List α} {p : α → Bool} {i : Nat} {x : α} (h : xs[i]? = some x) (ha : (xs.take i).all p = true) : (xs.take (i + 1)).all p = p x := by
  rw [List.take_add_one, h, List.all_append, ha]
  simp
theorem all_not {α : Type} {xs : List α} {p : α → Bool} {i : Nat} {x : α} (h : xs[i]? = some x) (hp : p x = false) : xs.all p = false := by
  rw [Bool.eq_false_iff]
  intro z
  rw [List.all_eq_true] at z
  rw [z x (List.mem_of_getElem? h)] at hp
  cases hp
theorem zip_at {α β : Type} {xs : List α} {ys : List β} {i : Nat} {x : α} {y : β} (h : xs[i]? = some x) (g : ys[i]? = some y) : (xs.zip ys)[i]? = some (x, y) := by
  rw [List.getElem?_zip_eq_some]
  exact ⟨h, g⟩
theorem kt_kn_parts {Ps : List Addr} {H H' : Hp} (k : Kt Ps H H') (t : Tabs Ps H) {v : V} (h : Kn H v) : parts H' v = parts H v := by
  cases v with
  | ref a =>
    unfold parts
    rcases h with ⟨xs, h⟩ | ⟨xs, h⟩ | ⟨xs, h⟩
    · simp only [h, k.lst t h]
    · simp only [h, k.tup t h]
    · simp only [h, k.dct t h]
  | _ => rfl
theorem RowK.kt {Ps : List Addr} {H H' : Hp} {v : V} (h : RowK H v) (k : Kt Ps H H') (t : Tabs Ps H) : RowK H' v := ⟨k.kn t h.1, fun xs e => by
  rw [kt_kn_parts k t h.1] at e
  exact ⟨fun x hx => k.kn t ((h.2 xs e).1 x hx), (h.2 xs e).2⟩⟩
theorem rise_kt {Ps : List Addr} {H H' : Hp} {v : V} (h : RowK H v) (k : Kt Ps H H') (t : Tabs Ps H) (lim : Int) : riseB H' lim v = riseB H lim v := by
  unfold riseB
  rw [kt_kn_parts k t h.1]
theorem cut_tail (xs : List V) : cutV xs (some 1) none = xs.drop 1 := by
  unfold cutV
  rw [HT.sIx_none, show (1 : Int) = ((1 : Nat) : Int) from rfl, HT.sIx_nat]
  cases xs with
  | nil => rfl
  | cons x r =>
    rw [Nat.min_eq_left (by simp)]
    exact List.take_of_length_le (by simp)
section
variable {P : Program} {w : World} {K : PySem.W.Frag} {mg : Str → Option Value} {base : Heap}
theorem ok_are_rising_below {f c Pt : Addr} {fd : FuncData} {Ps : List Addr} (F : FunC K "are_rising_below" "are_rising_below" s_are_rising_below f fd c) (TB : GxR.TabB base mg c Pt) (hPt : Pt ∈ Ps) (M : Free mg) (m_all : mg "all" = none) (m_zip : mg "zip" = none) (D_is_whole_below : Df P w K mg base 2 "is_whole_below" ["limit", "thing"] spBelow) : FnOk P w K mg base CX0 4 f fd ["limit", "thing"] (spRising Ps) := by
  obtain ⟨f_is_whole_below, fd_is_whole_below, G_is_whole_below, g_is_whole_below, k_is_whole_below, b_is_whole_below⟩ := D_is_whole_below
  refine F.ok sc_are_rising_below (fun vs H Q E h => ?_) (fun A outer s H vs Q E hr h => ?_)
  · obtain ⟨lim, v, rfl, _⟩ := h
    rfl
  · obtain ⟨lim, v, rfl, ⟨kv, kp⟩, hT, q⟩ := h
    refine ⟨_, (Evl.pss_cut (ps_if (PW.pt (pw_or (pt_not (pt_val (pe_callB call_isi (by rfl) M.isinstance (by decide +kernel) (pa_cons (pv 1) (pa_cons (pe_bltn (v := .ty "tuple") (by rfl) M.tuple (by decide +kernel) rfl) pa_nil))))) (pw_or1 (pt_not (pt_val (pe_all (k := 2) (own := [("number", 2)]) (g := gName 2) hr TB rfl rfl sc_are_rising_below.nd (by rfl) m_all (pi_tup (pv 1)) (blkOk_by (N := N_are_rising_below) (sc := defScope s_are_rising_below) (own := [("number", 2)]) (by decide +kernel)) ⟨rfl, by decide +kernel, by decide +kernel⟩ (show (".0" : Str) ∉ N_are_rising_below by decide +kernel) (fun _ _ _ _ _ _ _ => (pg_name (i := 2) sc_are_rising_below.nd rfl (.inl rfl))) (fun _ _ _ _ _ _ _ hr' => (pe_call G_is_whole_below hr' (by rfl) g_is_whole_below k_is_whole_below b_is_whole_below .nil pass0 (pa_cons (pv 0) (pa_cons (pv 2) pa_nil))))))))))
        (pss_one (ps_ret pe_bl))
        pss_nil)
      (pss_one (ps_ret (pe_all (k := 2) (own := [("number", 2), ("following", 3)]) (g := gTup K 2 (gCons (gName 2) (gCons (gName 3) gNil))) hr TB rfl rfl sc_are_rising_below.nd (by rfl) m_all (RZ.pi_zipA (by rfl) m_zip (pa_cons (pv 1) (pa_cons (pe_slice sl_tupU (pv 1) (po_some pe_int) po_none) pa_nil))) (blkOk_by (N := N_are_rising_below) (sc := defScope s_are_rising_below) (own := [("number", 2), ("following", 3)]) (by decide +kernel)) ⟨rfl, by decide +kernel, by decide +kernel⟩ (show (".0" : Str) ∉ N_are_rising_below by decide +kernel) (fun _ _ _ _ _ _ _ => (pg_tup rfl (pgs_cons (pg_name (i := 2) sc_are_rising_below.nd rfl (.inl rfl)) (pgs_cons (pg_name (i := 3) sc_are_rising_below.nd rfl (.inl rfl)) pgs_nil)))) (fun _ _ _ _ _ _ _ hr' => (pe_cmpR op_lt (pv 2) (pv 3) (nomark _))))))), ?_⟩
    refine ⟨fun σ' H' => σ' = [some (.int lim), some v, none, none] ∧ Kt Ps H H' ∧ ∃ a xs, v = .ref a ∧ H a = some (.tup xs) ∧ xs.all (wbelow lim) = true, ?_, ?_⟩
    · obtain ⟨t1, h1, e1⟩ := kn_tup (K := K) kv
      refine ⟨v, rfl, v, _, t1, _, _, rfl, .ty "tuple", h1, e1, _, rfl, ?_⟩
      cases hi : isT H v with
      | false =>
        unfold riseB at q
        rw [parts_none hi] at q
        exact q _ (Kt.refl hT)
      | true =>
        obtain ⟨a, xs, rfl, ha⟩ := isT_at hi
        obtain ⟨kx, lx⟩ := kp xs (parts_of' ha)
        refine ⟨.ref a, rfl, a, rfl, ⟨_, SqT.of ha⟩, hT Pt hPt, fun j m H' => j + m = xs.length ∧ Kt Ps H H' ∧ (xs.take j).all (wbelow lim) = true, fun H2 hH2 => ⟨xs.length, by omega, Kt.tabbed hT hPt hH2, rfl⟩, fun j m H' hw => ?_⟩
        obtain ⟨em, kt, hal⟩ := hw
        have ha' := kt.tup hT ha
        by_cases hj : j < xs.length
        · refine .inr ⟨⟨_, _, SqT.of ha', List.getElem?_eq_getElem hj⟩, fun H3 => Kt Ps H H3 ∧ (xs.take (j + 1)).all (wbelow lim) = true, fun H3 n3 => ⟨m - 1, by omega, by omega, n3.1, n3.2⟩, fun x H3 hy => ?_⟩
          obtain ⟨rfl, fy⟩ := hy
          have ex : xs[j]? = some x := fy _ (SqT.of ha')
          refine ⟨rfl, .int lim, rfl, x, rfl, lim, x, rfl, kt.kn hT (kx x (List.mem_of_getElem? ex)), _, rfl, ?_⟩
          cases hb : wbelow lim x with
          | true => exact ⟨kt, (take_all ex hal).trans hb⟩
          | false =>
            have no : riseB H lim (.ref a) = false := by
              unfold riseB
              rw [parts_of' ha]
              show (xs.all (wbelow lim) && chainB xs) = false
              rw [all_not ex hb]
              rfl
            rw [no] at q
            exact ⟨_, rfl, q _ kt⟩
        · refine .inl ⟨⟨_, SqT.of ha', by omega⟩, ?_⟩
          rw [List.take_of_length_le (by omega)] at hal
          exact ⟨_, rfl, rfl, kt, a, xs, rfl, ha, hal⟩
    · rintro σ' H1 ⟨rfl, kt1, a, xs, rfl, ha, hal⟩
      obtain ⟨kx, lx⟩ := kp xs (parts_of' ha)
      have er : riseB H lim (.ref a) = chainB xs := by
        unfold riseB
        rw [parts_of' ha]
        show (xs.all (wbelow lim) && chainB xs) = chainB xs
        rw [hal]
        rfl
      rw [er] at q
      have T1 : Tabs Ps H1 := kt1.tab
      have ha1 := kt1.tup hT ha
      refine ⟨.ref a, rfl, .ref a, rfl, 1, rfl, a, xs, rfl, ha1, fun r H2 s2 hr2 => ?_⟩
      rw [cut_tail] at hr2
      have k2 := Kt.same T1 s2
      have T2 : Tabs Ps H2 := k2.tab
      have ha2 := s2 _ _ ha1
      have k12 := kt1.trans k2
      refine ⟨a, r, xs, xs.drop 1, rfl, .inr ⟨SqT.of ha2, SqT.of hr2, ?_⟩⟩
      refine ⟨T2 Pt hPt, fun i m H' => i + m = xs.length - 1 ∧ Kt Ps H2 H' ∧ ((xs.zip (xs.drop 1)).take i).all (fun p => ltV p.1 p.2) = true, fun H3 hH3 => ⟨xs.length - 1, by omega, Kt.tabbed T2 hPt hH3, rfl⟩, fun i m H' hw => ?_⟩
      obtain ⟨em, kt, hal2⟩ := hw
      have ha' := kt.tup T2 ha2
      have hr' := kt.tup T2 hr2
      by_cases hi : i < xs.length - 1
      · have hd : i < (xs.drop 1).length := by rw [List.length_drop]; exact hi
        refine .inr ⟨⟨xs, xs.drop 1, _, _, SqT.of ha', SqT.of hr', List.getElem?_eq_getElem (by omega), List.getElem?_eq_getElem hd⟩, fun H3 => Kt Ps H2 H3 ∧ ((xs.zip (xs.drop 1)).take (i + 1)).all (fun p => ltV p.1 p.2) = true, fun H3 n3 => ⟨m - 1, by omega, by omega, n3.1, n3.2⟩, fun x H3 hy => ?_⟩
        obtain ⟨T, x1, y1, rfl, nT, rfl, gx, gy⟩ := hy
        have ex := gx _ (SqT.of ha')
        have ey := gy _ (SqT.of hr')
        have ez := zip_at ex ey
        have wb : ∀ z ∈ xs, ∃ k, z = .int k := fun z hz => by
          rw [List.all_eq_true] at hal
          have := hal z hz
          cases z with
          | int k => exact ⟨k, rfl⟩
          | _ => cases this
        obtain ⟨a1, rfl⟩ := wb x1 (List.mem_of_getElem? ex)
        obtain ⟨b1, rfl⟩ := wb y1 (List.mem_of_mem_drop (List.mem_of_getElem? ey))
        have s3 : Same H' (upd H' T (.tup [.int a1, .int b1])) := same_new nT
        have kt3 := kt.trans (Kt.same kt.tab s3)
        refine ⟨T, _, rfl, SqT.of upd_same, rfl, _, _, rfl, _, _, rfl, rfl, rfl, .int a1, rfl, .int b1, rfl, a1, b1, rfl, rfl, _, rfl, ?_⟩
        cases hb : decide (a1 < b1) with
        | true => exact ⟨kt3, (take_all ez hal2).trans hb⟩
        | false =>
          have no : chainB xs = false := all_not ez hb
          rw [no] at q
          exact q _ (k12.trans kt3)
      · refine .inl ⟨⟨xs, xs.drop 1, SqT.of ha', SqT.of hr', .inr (by rw [List.length_drop]; omega)⟩, ?_⟩
        have lz : (xs.zip (xs.drop 1)).length ≤ i := by rw [List.length_zip, List.length_drop]; omega
        rw [List.take_of_length_le lz] at hal2
        have yes : chainB xs = true := hal2
        rw [yes] at q
        exact q _ (k12.trans kt)
end
/-! ### papers: things, and what they show -/
def PapV : Nat → Hp → V → Prop
  | 0, H, v => Kn H v ∧ parts H v = none
  | d + 1, H, v => Kn H v ∧ ∀ xs, parts H v = some xs → (∀ x ∈ xs, PapV d H x) ∧ xs.length ≤ 1000
theorem PapV.kn {d : Nat} {H : Hp} {v : V} (h : PapV d H v) : Kn H v := by
  cases d with
  | zero => exact h.1
  | succ d => exact h.1
theorem PapV.up : ∀ {d : Nat} {H : Hp} {v : V}, PapV d H v → PapV (d + 1) H v
  | 0, H, v, h => ⟨h.1, fun xs e => by rw [h.2] at e; cases e⟩
  | d + 1, H, v, h => ⟨h.1, fun xs e => ⟨fun x hx => PapV.up ((h.2 xs e).1 x hx), (h.2 xs e).2⟩⟩
theorem PapV.mono {d e : Nat} (l : d ≤ e) {H : Hp} {v : V} (h : PapV d H v) : PapV e H v := by
  induction l with
  | refl => exact h
  | step _ ih => exact ih.up
theorem PapV.part {d : Nat} {H : Hp} {v : V} (h : PapV d H v) : Part2 H v := by
  have h := h.up
  exact ⟨h.1, fun ys e => ⟨fun y hy => ((h.2 ys e).1 y hy).kn, (h.2 ys e).2⟩⟩
theorem PapV.thing {d : Nat} {H : Hp} {v : V} (h : PapV d H v) : Thing2 H v := by
  have h := h.up
  exact ⟨h.1, fun xs e x hx => ((h.2 xs e).1 x hx).part⟩
theorem PapV.row {d : Nat} {H : Hp} {v : V} (h : PapV d H v) : RowK H v := h.part
/-- what is known stays -/
def StayP (H H' : Hp) : Prop := ∀ u, Kn H u → Kn H' u ∧ parts H' u = parts H u
theorem StayP.kt {Ps : List Addr} {H H' : Hp} (k : Kt Ps H H') (t : Tabs Ps H) : StayP H H' := fun u h => ⟨k.kn t h, kt_parts k t h⟩
theorem StayP.same {H H' : Hp} (s : Same H H') : StayP H H' := fun u h => by
  cases u with
  | ref a =>
    unfold parts
    rcases h with ⟨xs, h⟩ | ⟨xs, h⟩ | ⟨xs, h⟩
    · exact ⟨.inl ⟨xs, s _ _ h⟩, by simp only [h, s _ _ h]⟩
    · exact ⟨.inr (.inl ⟨xs, s _ _ h⟩), by simp only [h, s _ _ h]⟩
    · exact ⟨.inr (.inr ⟨xs, s _ _ h⟩), by simp only [h, s _ _ h]⟩
  | _ => exact ⟨h, rfl⟩
theorem StayP.trans {H H1 H2 : Hp} (a : StayP H H1) (b : StayP H1 H2) : StayP H H2 := fun u h => ⟨(b u (a u h).1).1, ((b u (a u h).1).2).trans (a u h).2⟩
theorem PapV.stay : ∀ {d : Nat} {H H' : Hp} {v : V}, PapV d H v → StayP H H' → PapV d H' v
  | 0, H, H', v, h, s => ⟨(s v h.1).1, (s v h.1).2.trans h.2⟩
  | d + 1, H, H', v, h, s => ⟨(s v h.1).1, fun xs e => by
    rw [(s v h.1).2] at e
    exact ⟨fun x hx => PapV.stay ((h.2 xs e).1 x hx) s, (h.2 xs e).2⟩⟩
theorem ring_stay {H H' : Hp} {v : V} (h : Thing2 H v) (s : StayP H H') (n : Int) (ts : List Tie) : ringB H' n ts v = ringB H n ts v := by
  unfold ringB
  rw [(s v h.1).2]
  cases e : parts H v with
  | none => rfl
  | some xs =>
    match xs, e with
    | [], _ => rfl
    | [_], _ => rfl
    | [a, b], e =>
      show ringP n ts (parts H' a) (parts H' b) = ringP n ts (parts H a) (parts H b)
      rw [(s a (h.2 _ e a (by simp)).1).2, (s b (h.2 _ e b (by simp)).1).2]
    | _ :: _ :: _ :: _, _ => rfl
theorem odd_stay {H H' : Hp} {v : V} (h : Thing2 H v) (s : StayP H H') (n : Int) (ts : List Tie) : oddB H' n ts v = oddB H n ts v := by
  unfold oddB
  rw [ring_stay h s, (s v h.1).2]
  congr 1
  cases e : parts H v with
  | none => rfl
  | some xs =>
    match xs, e with
    | [], _ => rfl
    | [_], _ => rfl
    | [a, b], e =>
      show (match parts H' b with | some es => decide (foesI ts (es.map toI) % 2 = 1) | none => false) = (match parts H b with | some es => decide (foesI ts (es.map toI) % 2 = 1) | none => false)
      rw [(s b (h.2 _ e b (by simp)).1).2]
    | _ :: _ :: _ :: _, _ => rfl
def tiesOf (H : Hp) (ring : V) : List Int := match parts H ring with
  | some [_, t] => ((parts H t).getD []).map toI
  | _ => []
theorem tiesOf_stay {H H' : Hp} {v : V} (h : Thing2 H v) (s : StayP H H') : tiesOf H' v = tiesOf H v := by
  unfold tiesOf
  rw [(s v h.1).2]
  cases e : parts H v with
  | none => rfl
  | some xs =>
    match xs, e with
    | [], _ => rfl
    | [_], _ => rfl
    | [a, b], e =>
      show ((parts H' b).getD []).map toI = ((parts H b).getD []).map toI
      rw [(s b (h.2 _ e b (by simp)).1).2]
    | _ :: _ :: _ :: _, _ => rfl
/-- a row of rings: an odd ring, and how often -/
def rowR (H : Hp) (n : Int) (ts : List Tie) (r : V) : Option (List Int × Int) := match parts H r with
  | some [x, .int t] => if decide (1 ≤ t) && oddB H n ts x then some (tiesOf H x, t) else none
  | _ => none
theorem rowR_stay {d : Nat} {H H' : Hp} {v : V} (h : PapV d H v) (s : StayP H H') (n : Int) (ts : List Tie) : rowR H' n ts v = rowR H n ts v := by
  have h := h.up
  unfold rowR
  rw [(s v h.1).2]
  cases e : parts H v with
  | none => rfl
  | some xs =>
    match xs, e with
    | [], _ => rfl
    | [_], _ => rfl
    | [a, b], e =>
      cases b with
      | int t =>
        have ha := ((h.2 _ e).1 a (by simp)).thing
        show (if decide (1 ≤ t) && oddB H' n ts a then some (tiesOf H' a, t) else none) = (if decide (1 ≤ t) && oddB H n ts a then some (tiesOf H a, t) else none)
        rw [odd_stay ha s, tiesOf_stay ha s]
      | _ => rfl
    | _ :: y :: _ :: _, _ => cases y <;> rfl
def stepR (H : Hp) (n : Int) (ts : List Tie) : Option (List (List Int × Int)) → V → Option (List (List Int × Int))
  | none, _ => none
  | some xs, r => match rowR H n ts r with
    | none => none
    | some x => some (xs ++ [x])
def loadR (xs : List (List Int × Int)) (e : Int) : Int := (xs.map fun x => if e ∈ x.1 then x.2 else 0).sum
def totR (xs : List (List Int × Int)) : Int := (xs.map (·.2)).sum
def givR (m : Nat) (given : List Int) (xs : List (List Int × Int)) : Bool := xs.all fun x => x.1.all fun e => decide (e ∈ given) || decide ((m : Int) ≤ e)
def fitR (lim : List Int) (xs : List (List Int × Int)) : Bool := xs.all fun x => x.1.all fun e => decide ((lim.length : Int) ≤ e) || decide (loadR xs e ≤ lim.getD e.toNat 0)
def ringsS (H : Hp) (n : Int) (ts : List Tie) (lim given : List Int) (rows : List V) : Option Int := match rows.foldl (stepR H n ts) (some []) with
  | none => none
  | some xs => if givR lim.length given xs && fitR lim xs then some ((totR xs + 1) / 2) else none
/-- a row of a split: rising ties, and something for them -/
def rowT (H : Hp) (m : Nat) (r : V) : Option (List Int × V) := match parts H r with
  | some [t, p] => if riseB H m t then some (((parts H t).getD []).map toI, p) else none
  | _ => none
def stepT (H : Hp) (m : Nat) (given : List Int) (S : List Int → V → Option Int) : Option (List Int × Int) → V → Option (List Int × Int)
  | none, _ => none
  | some (tk, tot), r => match rowT H m r with
    | none => none
    | some (es, p) => if es.all (fun e => decide (e ∈ given) && !decide (e ∈ tk)) then (match S es p with
      | none => none
      | some k => some (tk ++ es, tot + k)) else none
def splitS (H : Hp) (m : Nat) (given : List Int) (S : List Int → V → Option Int) (rows : List V) : Option Int := (rows.foldl (stepT H m given S) (some ([], 0))).map (·.2)
def minO : Option Int → Option Int → Option Int
  | some x, some y => some (min x y)
  | _, _ => none
def caseS (n : Int) (S : Tie → V → Option Int) (p q a b : V) : Option Int := match p, q with
  | .int x, .int y => if wbelow n (.int x) && (wbelow n (.int y) && !decide (x = y)) then minO (S ⟨x, y, false⟩ a) (S ⟨x, y, true⟩ b) else none
  | _, _ => none
def shownS : Nat → Hp → Int → List Tie → List Int → List Int → V → Option Int
  | 0, _, _, _, _, _, _ => none
  | d + 1, H, n, ts, lim, given, v => match parts H v with
    | some [w, r] => (match parts H r with
      | none => none
      | some rows => if w = .str "rings" then ringsS H n ts lim given rows else if w = .str "split" then splitS H lim.length given (fun es p => shownS d H n ts lim es p) rows else none)
    | some [w, p, q, a, b] => if w = .str "case" then caseS n (fun t x => shownS d H n (ts ++ [t]) lim given x) p q a b else none
    | _ => none
theorem fold_at {α β : Type} {f : β → α → β} {b : β} {rows : List α} {i : Nat} {r : α} (e : rows[i]? = some r) : (rows.take (i + 1)).foldl f b = f ((rows.take i).foldl f b) r := by
  rw [List.take_add_one, e, List.foldl_append]
  rfl
theorem fold_none {α β : Type} {f : Option β → α → Option β} (hf : ∀ a, f none a = none) : ∀ rows : List α, rows.foldl f none = none
  | [] => rfl
  | r :: rs => by rw [List.foldl_cons, hf, fold_none hf rs]
theorem fold_off {α β : Type} {f : Option β → α → Option β} (hf : ∀ a, f none a = none) {b : Option β} {rows : List α} {i : Nat} (h : (rows.take i).foldl f b = none) : rows.foldl f b = none := by
  have e : rows = rows.take i ++ rows.drop i := (List.take_append_drop ..).symm
  rw [e, List.foldl_append, h]
  exact fold_none hf _
theorem stepR_none (H : Hp) (n : Int) (ts : List Tie) (r : V) : stepR H n ts none r = none := rfl
theorem stepT_none (H : Hp) (m : Nat) (given : List Int) (S : List Int → V → Option Int) (r : V) : stepT H m given S none r = none := rfl
theorem foldl_ext {α β : Type} {f g : β → α → β} : ∀ {rows : List α} {b : β}, (∀ r ∈ rows, ∀ b, f b r = g b r) → rows.foldl f b = rows.foldl g b
  | [], _, _ => rfl
  | r :: rs, b, h => by rw [List.foldl_cons, List.foldl_cons, h r List.mem_cons_self, foldl_ext fun x hx => h x (List.mem_cons_of_mem _ hx)]
theorem rowT_stay {d : Nat} {H H' : Hp} {v : V} (h : PapV d H v) (s : StayP H H') (m : Nat) : rowT H' m v = rowT H m v := by
  have h := h.up
  unfold rowT
  rw [(s v h.1).2]
  cases e : parts H v with
  | none => rfl
  | some xs =>
    have hx := (h.2 _ e).1
    match xs, hx with
    | [], _ => rfl
    | [_], _ => rfl
    | [a, b], hx =>
      have ha := hx a (by simp)
      have e4 : riseB H' m a = riseB H m a := by
        unfold riseB
        rw [(s a ha.kn).2]
      show (if riseB H' m a = true then some (((parts H' a).getD []).map toI, b) else none) = (if riseB H m a = true then some (((parts H a).getD []).map toI, b) else none)
      rw [e4, (s a ha.kn).2]
    | _ :: _ :: _ :: _, _ => rfl
theorem rowT_is {H : Hp} {m : Nat} {r : V} {es : List Int} {p : V} (h : rowT H m r = some (es, p)) : ∃ t, parts H r = some [t, p] ∧ riseB H m t = true ∧ es = ((parts H t).getD []).map toI := by
  unfold rowT at h
  cases e : parts H r with
  | none => rw [e] at h; cases h
  | some xs =>
    rw [e] at h
    match xs, h with
    | [t, q], h =>
      change (if riseB H m t = true then some (((parts H t).getD []).map toI, q) else none) = some (es, p) at h
      by_cases hb : riseB H m t = true
      · rw [if_pos hb] at h
        have h := Option.some.inj h
        obtain ⟨rfl, rfl⟩ := Prod.mk.inj h
        exact ⟨t, rfl, hb, rfl⟩
      · rw [if_neg hb] at h
        cases h
theorem rowT_pap {d : Nat} {H : Hp} {m : Nat} {r : V} {es : List Int} {p : V} (h : PapV d H r) (e : rowT H m r = some (es, p)) : PapV d H p := by
  obtain ⟨t, h1, _, _⟩ := rowT_is e
  cases d with
  | zero => rw [h.2] at h1; cases h1
  | succ d => exact (((h.2 _ h1).1 p (by simp))).up
theorem shown_stay : ∀ {d e : Nat} {H H' : Hp} {v : V}, PapV e H v → StayP H H' → ∀ (n : Int) (ts : List Tie) (lim given : List Int), shownS d H' n ts lim given v = shownS d H n ts lim given v
  | 0, _, _, _, _, _, _, _, _, _, _ => rfl
  | d + 1, e, H, H', v, h, s, n, ts, lim, given => by
    have h := h.up
    unfold shownS
    rw [(s v h.1).2]
    cases ev : parts H v with
    | none => rfl
    | some xs =>
      have hx := (h.2 _ ev).1
      match xs, hx with
      | [], _ => rfl
      | [_], _ => rfl
      | [w, r], hx =>
        have hr := (hx r (by simp)).up
        show (match parts H' r with | none => none | some rows => _) = (match parts H r with | none => none | some rows => _)
        rw [(s r hr.1).2]
        cases er : parts H r with
        | none => rfl
        | some rows =>
          have hrow := (hr.2 _ er).1
          show (if w = .str "rings" then _ else if w = .str "split" then _ else none) = (if w = .str "rings" then _ else if w = .str "split" then _ else none)
          by_cases e1 : w = .str "rings"
          · rw [if_pos e1, if_pos e1]
            unfold ringsS
            rw [foldl_ext (g := stepR H n ts) fun r hr b => by
              cases b with
              | none => rfl
              | some b =>
                show (match rowR H' n ts r with | none => none | some x => some (b ++ [x])) = (match rowR H n ts r with | none => none | some x => some (b ++ [x]))
                rw [rowR_stay (hrow r hr) s]]
          · rw [if_neg e1, if_neg e1]
            by_cases e2 : w = .str "split"
            · rw [if_pos e2, if_pos e2]
              unfold splitS
              rw [foldl_ext (g := stepT H lim.length given fun es p => shownS d H n ts lim es p) fun r hr b => ?_]
              cases b with
              | none => rfl
              | some b =>
                show (match rowT H' lim.length r with | none => none | some (es, p) => if es.all (fun e => decide (e ∈ given) && !decide (e ∈ b.1)) then (match shownS d H' n ts lim es p with | none => none | some k => some (b.1 ++ es, b.2 + k)) else none) = (match rowT H lim.length r with | none => none | some (es, p) => if es.all (fun e => decide (e ∈ given) && !decide (e ∈ b.1)) then (match shownS d H n ts lim es p with | none => none | some k => some (b.1 ++ es, b.2 + k)) else none)
                rw [rowT_stay (hrow r hr) s]
                cases e3 : rowT H lim.length r with
                | none => rfl
                | some ep =>
                  obtain ⟨es, p⟩ := ep
                  have hp := rowT_pap (hrow r hr) e3
                  show (if es.all (fun e => decide (e ∈ given) && !decide (e ∈ b.1)) then (match shownS d H' n ts lim es p with | none => none | some k => some (b.1 ++ es, b.2 + k)) else none) = (if es.all (fun e => decide (e ∈ given) && !decide (e ∈ b.1)) then (match shownS d H n ts lim es p with | none => none | some k => some (b.1 ++ es, b.2 + k)) else none)
                  rw [shown_stay hp s]
            · rw [if_neg e2, if_neg e2]
      | [_, _, _], _ => rfl
      | [_, _, _, _], _ => rfl
      | [w, p, q, a, b], hx =>
        show (if w = .str "case" then caseS n _ p q a b else none) = (if w = .str "case" then caseS n _ p q a b else none)
        congr 1
        unfold caseS
        cases p <;> cases q <;> try rfl
        simp only [shown_stay (hx a (by simp)) s, shown_stay (hx b (by simp)) s]
      | _ :: _ :: _ :: _ :: _ :: _ :: _, _ => rfl
/-! ### a thing of any kind against a text -/
section
open PySem.SeqAt PySem.MeetsSeq
open PySem.AutoSeq1 (wpAny_loadPart')
variable {A : PySem.Around} {s : Shared}
theorem str_eq_declines_dictP (b : Str) (u : Tok) (l : Addr) (o : Obj) : Meets (Builtin.«str.__eq__» ⟨[.str b u, .ref l], []⟩) (fun _ R s => s.heap.get? l = some o ∧ o.cls = .type "dict" ∧ (∃ es ep, o.data = .dict es ep) ∧ R (.ok (.ret .notImplemented)) s) :=
  .of_wp fun prog w A R s h => by
    obtain ⟨hp, g, d, tk, os⟩ := s
    obtain ⟨hl, hc, ⟨es, ep, hd⟩, h⟩ := h
    obtain ⟨cls, dd, data, sl⟩ := o
    simp only at hc hd
    subst hc hd
    wp_walk using wpAny_loadPart' hl, wpAny_load hl
    exact ⟨_, rfl, h⟩
theorem dict_eq_declines_strP (l : Addr) (o : Obj) (b : Str) (u : Tok) : Meets (Builtin.«dict.__eq__» ⟨[.ref l, .str b u], []⟩) (fun _ R s => s.heap.get? l = some o ∧ o.cls = .type "dict" ∧ (∃ es ep, o.data = .dict es ep) ∧ R (.ok (.ret .notImplemented)) s) :=
  .of_wp fun prog w A R s h => by
    obtain ⟨hp, g, d, tk, os⟩ := s
    obtain ⟨hl, hc, ⟨es, ep, hd⟩, h⟩ := h
    obtain ⟨cls, dd, data, sl⟩ := o
    simp only at hc hd
    subst hc hd
    have f1 := F.sub_str_dict
    wp_walk using wpAny_loadPart' hl
    exact ⟨_, rfl, h⟩
theorem rc_dict_str {l : Addr} {o : Obj} {es : Array DictEntry} {ep : Nat} (b : Str) (u : Tok) (ho : s.heap.get? l = some o) (hc : o.cls = .type "dict") (hd : o.data = .dict es ep) (hu : A.units < cLine) : RcAt A s (.ref l) (.str b u) false := fun prog w E Q h => by
  exact rc_eq_decline_or (k := false) ⟨_, ho, hc⟩ (typeIs_str s b u) (by decide) F.sub_str_dict F.slot_dict_eq F.slot_str_eq_refl
    (fun _ hq => call_meets F.slot_dict_eq ⟨_, ho, hc⟩ F.entry_dict_eq (F.args_dict_eq_2 _ _) (dict_eq_declines_strP l o b u) ⟨ho, hc, ⟨_, _, hd⟩, hq⟩)
    (fun _ hq => call_meets F.slot_str_eq_refl (typeIs_str s b u) F.entry_str_eq (F.args_str_eq_2 _ _) (str_eq_declines_dictP b u l o) ⟨ho, hc, ⟨_, _, hd⟩, hq⟩)
    (fun _ hq => wpAny_of_eq (rfl : isSame (.ref l) (.str b u) = pure false) hq) (.inr hu) h
end
def rEqAS : R2 := fun x y H Q => ∃ b, y = .str b ∧ Kn H x ∧ Q (.bl (decide (x = .str b))) H
theorem op_eqAS {X : Cx} (hu : X.A.units < cLine) : OpR X (compareOp .Eq) rEqAS := by
  intro pins s σ H x y v u Q I rx ry want
  obtain ⟨b, rfl, hk, q⟩ := want
  obtain ⟨k, rfl⟩ := ry
  cases x with
  | non =>
    cases rx
    exact SeqAt.RcAt.none_str b k _ _ _ _ ⟨.bl false, H, I, rfl, q⟩
  | bl a =>
    cases rx
    exact SeqAt.RcAt.bool_str a b k _ _ _ _ ⟨.bl false, H, I, rfl, q⟩
  | int a =>
    obtain ⟨t, rfl⟩ := rx
    exact SeqAt.RcAt.int_str a t b k _ _ _ _ ⟨.bl false, H, I, rfl, q⟩
  | str a =>
    obtain ⟨t, rfl⟩ := rx
    refine SeqAt.RcAt.str_str a t b k _ _ _ _ ⟨.bl (a == b), H, I, rfl, ?_⟩
    have e : decide (V.str a = V.str b) = (a == b) := by
      rw [Bool.eq_iff_iff, decide_eq_true_iff, beq_iff_eq]
      exact ⟨fun h => V.str.inj h, fun h => by rw [h]⟩
    rw [← e]
    exact q
  | ref a =>
    obtain rfl : v = Value.ref a := rx
    have q : Q (.bl false) H := q
    rcases hk with ⟨xs, h⟩ | ⟨xs, h⟩ | ⟨xs, h⟩
    · obtain ⟨its, r1, p1, _⟩ := I.list (.inl (.inl h))
      exact SeqAt.RcAt.list_str b k p1.isList hu _ _ _ _ ⟨.bl false, H, I, rfl, q⟩
    · obtain ⟨its, rv, tup, _⟩ := I.tuple (.inl (.inl h))
      exact SeqAt.RcAt.tuple_str b k tup hu _ _ _ _ ⟨.bl false, H, I, rfl, q⟩
    · obtain ⟨hz, hne, vs, kv, o2, es, ep, ho2, ed, hd2, ko, pr, nd⟩ := I.hok a _ h
      exact rc_dict_str b k ho2 ed.1 hd2 hu _ _ _ _ ⟨.bl false, H, I, rfl, q⟩
  | _ => exact hk.elim
def rLen49 (K : PySem.W.Frag) : List V → Hp → VK → Prop := fun xs H Q => ∃ p ys, xs = [V.ref p] ∧ (SqL K H p ys ∨ SqT K H p ys) ∧ Q (V.int (ys.length : Nat)) H
/-! ### papers: rows of rings, rows of splits -/
def kvG (ks : List Int) : List (Key × V) := ks.map fun k => (Sum.inl k, V.bl true)
theorem kvG_val {x : Int} : ∀ {ks : List Int}, valV (kvG ks) (Sum.inl x) = if x ∈ ks then some (.bl true) else none
  | [] => rfl
  | k :: ks => by
    show valV ((Sum.inl k, V.bl true) :: kvG ks) (Sum.inl x) = _
    by_cases e : k = x
    · rw [valV_pos (p := ((Sum.inl k : Key), V.bl true)) (show (Sum.inl k : Key) = Sum.inl x by rw [e]), e, if_pos List.mem_cons_self]
    · rw [valV_neg (p := ((Sum.inl k : Key), V.bl true)) (show ¬ (Sum.inl k : Key) = Sum.inl x from fun z => e (Sum.inl.inj z)), kvG_val (ks := ks)]
      by_cases h : x ∈ ks
      · rw [if_pos h, if_pos (List.mem_cons_of_mem _ h)]
      · rw [if_neg h, if_neg fun z => h ((List.mem_cons.mp z).resolve_left fun q => e q.symm)]
theorem kvG_some {x : Int} {ks : List Int} : (valV (kvG ks) (Sum.inl x)).isSome = decide (x ∈ ks) := by
  rw [kvG_val]
  by_cases h : x ∈ ks
  · rw [if_pos h, decide_eq_true h]; rfl
  · rw [if_neg h, decide_eq_false h]; rfl
theorem len_is {H : Hp} {v : V} {n : Int} : lenIs H v n = true → ∃ xs, parts H v = some xs ∧ (xs.length : Int) = n := fun h => by
  unfold lenIs at h
  cases e : parts H v with
  | none => rw [e] at h; cases h
  | some xs => rw [e] at h; exact ⟨xs, rfl, of_decide_eq_true h⟩
theorem two_of {α : Type} : ∀ {xs : List α}, (xs.length : Int) = 2 → ∃ a b, xs = [a, b]
  | [a, b], _ => ⟨a, b, rfl⟩
  | [], h => by cases h
  | [_], h => by cases h
  | _ :: _ :: _ :: xs, h => by
    simp only [List.length_cons] at h
    omega
theorem two_not {H : Hp} {v : V} (h : lenIs H v 2 = false) {xs : List V} (e : parts H v = some xs) : ∀ a b, xs ≠ [a, b] := fun a b z => by
  subst z
  unfold lenIs at h
  rw [e] at h
  cases h
def rowOk (H : Hp) (n : Int) (ts : List Tie) (m : Nat) (given : List Int) (v : V) : Bool := match rowR H n ts v with
  | some x => x.1.all fun e => decide (e ∈ given) || decide ((m : Int) ≤ e)
  | none => false
theorem rowR_not {H : Hp} {n : Int} {ts : List Tie} {v : V} (h : lenIs H v 2 = false) : rowR H n ts v = none := by
  unfold rowR
  cases e : parts H v with
  | none => rfl
  | some xs =>
    have := two_not h e
    match xs, this with
    | [], _ => rfl
    | [_], _ => rfl
    | [a, b], t => exact (t a b rfl).elim
    | _ :: y :: _ :: _, _ => cases y <;> rfl
theorem rowR_two {H : Hp} {n : Int} {ts : List Tie} {v a b : V} (h : parts H v = some [a, b]) : rowR H n ts v = if wfrom 1 b && oddB H n ts a then some (tiesOf H a, toI b) else none := by
  unfold rowR
  rw [h]
  cases b with
  | int t => rfl
  | _ => rfl
theorem pigeon49 {m : Nat} (xs : List Int) (nd : xs.Nodup) (h : ∀ x ∈ xs, 0 ≤ x ∧ x < (m : Int)) : xs.length ≤ m := by
  have sub : ∀ (ys zs : List Int), ys.Nodup → (∀ y ∈ ys, y ∈ zs) → ys.length ≤ zs.length := fun ys => by
    induction ys with
    | nil => intro zs _ _; exact Nat.zero_le _
    | cons y ys ih =>
      intro zs nd hs
      have nd' := List.nodup_cons.mp nd
      have hy := hs y List.mem_cons_self
      have := ih (zs.erase y) nd'.2 fun w hw => (List.mem_erase_of_ne (show w ≠ y from fun z => nd'.1 (z ▸ hw))).mpr (hs w (List.mem_cons_of_mem _ hw))
      rw [List.length_erase_of_mem hy] at this
      have := List.length_pos_of_mem hy
      rw [List.length_cons]
      omega
  have := sub xs (rng m) nd fun x hx => mem_rng.mpr (h x hx)
  rw [rng_length] at this
  exact this
theorem odd_ties {H : Hp} {n : Int} {ts : List Tie} {v : V} (h : oddB H n ts v = true) : ∃ (a ta : Addr) (p : V) (en : List Int), v = .ref a ∧ H a = some (.tup [p, .ref ta]) ∧ H ta = some (.tup (en.map V.int)) ∧ tiesOf H v = en ∧ (∀ e ∈ en, 0 ≤ e ∧ e < (ts.length : Int)) ∧ en.Nodup ∧ en.length ≤ ts.length := by
  unfold oddB at h
  rw [Bool.and_eq_true] at h
  obtain ⟨a, pa, ta, pn, en, rfl, ea, epa, eta, hpn, hen, npn, nen, l2, le, _⟩ := ring_is h.1
  refine ⟨a, ta, .ref pa, en, rfl, ea, eta, ?_, hen, nen, ?_⟩
  · unfold tiesOf
    rw [parts_of' ea]
    show ((parts H (.ref ta)).getD []).map toI = en
    rw [parts_of' eta]
    exact toI_map en
  · exact pigeon49 en nen hen
/-- what a def of the checker is handed: the web with the sure ties, twice the weights, the ties that are given -/
structure KnotAt (H : Hp) (wv : V) (lv gv : Addr) (n : Int) (ts : List Tie) (lim given : List Int) : Prop where
  web : WebAt H wv n ts
  ok : WebOk n ts
  lm : H lv = some (.lst (lim.map V.int))
  few : lim.length ≤ ts.length
  giv : H gv = some (.dK (kvG given))
  inn : ∀ e ∈ given, 0 ≤ e ∧ e < (lim.length : Int)
  nd : given.Nodup
theorem KnotAt.kt {Ps : List Addr} {H H' : Hp} {wv : V} {lv gv : Addr} {n : Int} {ts : List Tie} {lim given : List Int} (h : KnotAt H wv lv gv n ts lim given) (k : Kt Ps H H') (t : Tabs Ps H) : KnotAt H' wv lv gv n ts lim given :=
  ⟨h.web.tk (k.tk t), h.ok, k.lst t h.lm, h.few, k.dct t h.giv, h.inn, h.nd⟩
def spRingRow (Ps : List Addr) : Sp := fun vs H Q _ => ∃ (wv : V) (lv gv : Addr) (v : V) (n : Int) (ts : List Tie) (lim given : List Int) (d : Nat), vs = [wv, .ref lv, .ref gv, v] ∧ KnotAt H wv lv gv n ts lim given ∧ PapV d H v ∧ Tabs Ps H ∧ ∀ H', Kt Ps H H' → Q (.bl (rowOk H n ts lim.length given v)) H'
section
variable {P : Program} {w : World} {K : PySem.W.Frag} {mg : Str → Option Value} {base : Heap}
set_option maxHeartbeats 2000000 in
theorem ok_is_ring_row {f c Pt : Addr} {fd : FuncData} {Ps : List Addr} (F : FunC K "is_ring_row" "is_ring_row" s_is_ring_row f fd c) (TB : GxR.TabB base mg c Pt) (hPt : Pt ∈ Ps) (M : Free mg) (m_all : mg "all" = none) (D_is_tuple_of : Df P w K mg base 1 "is_tuple_of" ["length", "thing"] spTupleOf) (D_odd_ring_holds : Df P w K mg base 6 "odd_ring_holds" ["web", "thing"] (spOdd Ps)) (D_is_whole_from : Df P w K mg base 2 "is_whole_from" ["low", "thing"] spFrom) : FnOk P w K mg base CX0 9 f fd ["web", "limits", "given", "thing"] (spRingRow Ps) := by
  obtain ⟨f_is_tuple_of, fd_is_tuple_of, G_is_tuple_of, g_is_tuple_of, k_is_tuple_of, b_is_tuple_of⟩ := D_is_tuple_of
  obtain ⟨f_odd_ring_holds, fd_odd_ring_holds, G_odd_ring_holds, g_odd_ring_holds, k_odd_ring_holds, b_odd_ring_holds⟩ := D_odd_ring_holds
  obtain ⟨f_is_whole_from, fd_is_whole_from, G_is_whole_from, g_is_whole_from, k_is_whole_from, b_is_whole_from⟩ := D_is_whole_from
  refine F.ok sc_is_ring_row (fun vs H Q E h => ?_) (fun A outer s H vs Q E hr h => ?_)
  · obtain ⟨wv, lv, gv, v, n, ts, lim, given, d, rfl, _⟩ := h
    rfl
  · obtain ⟨wv, lv, gv, v, n, ts, lim, given, d, rfl, hK, hP, hT, q⟩ := h
    have hu := room1 hr
    refine ⟨_, (pss_cons (ps_if (pt_not (pt_val (pe_call G_is_tuple_of (hr.mono (by decide)) (by rfl) g_is_tuple_of k_is_tuple_of b_is_tuple_of .nil pass0 (pa_cons pe_int (pa_cons (pv 3) pa_nil)))))
        (pss_one (ps_ret pe_bl))
        pss_nil)
      (pss_cons (ps_asg (pv 3) (pg_tup rfl (pgs_cons (pg_name (i := 4) sc_is_ring_row.nd rfl (.inl rfl)) (pgs_cons (pg_name (i := 5) sc_is_ring_row.nd rfl (.inl rfl)) pgs_nil))))
      (pss_cons (ps_if (PW.pt (pw_or (pt_not (pt_val (pe_call G_is_whole_from (hr.mono (by decide)) (by rfl) g_is_whole_from k_is_whole_from b_is_whole_from .nil pass0 (pa_cons pe_int (pa_cons (pv 5) pa_nil))))) (pw_or1 (pt_not (pt_val (pe_call G_odd_ring_holds (hr.mono (by decide)) (by rfl) g_odd_ring_holds k_odd_ring_holds b_odd_ring_holds .nil pass0 (pa_cons (pv 0) (pa_cons (pv 4) pa_nil))))))))
        (pss_one (ps_ret pe_bl))
        pss_nil)
      (pss_one (ps_ret (pe_all (k := 7) (own := [("tie", 6)]) (g := gName 6) hr TB rfl rfl sc_is_ring_row.nd (by rfl) m_all (pi_tup (pe_ix ix_tup (pv 4) pe_int (fun _ _ => rfl))) (blkOk_by (N := N_is_ring_row) (sc := defScope s_is_ring_row) (own := [("tie", 6)]) (by decide +kernel)) ⟨rfl, by decide +kernel, by decide +kernel⟩ (show (".0" : Str) ∉ N_is_ring_row by decide +kernel) (fun _ _ _ _ _ _ _ => (pg_name (i := 6) sc_is_ring_row.nd rfl (.inl rfl))) (fun _ _ _ _ _ _ _ hr' => (pe_or (pe_cmp (pc_din (room1 hr') (pv 6) (pv 2))) (pe_one (pe_cmpR op_ge (pv 6) (pe_callB (r := rLen49 K) call_len_seq (by rfl) M.len PySem.boot_len (pa_cons (pv 1) pa_nil)) (nomark _))))))))))), ?_⟩
    obtain ⟨hW, ok, hlim, few, hgiv, inn, ndg⟩ := hK
    have kv := hP.kn
    refine ⟨v, rfl, 2, v, rfl, kv, _, rfl, ?_⟩
    cases h2 : lenIs H v 2 with
    | false =>
      have e : rowOk H n ts lim.length given v = false := by
        unfold rowOk
        rw [rowR_not h2]
      rw [e] at q
      exact q _ (Kt.refl hT)
    | true =>
    obtain ⟨xs, hx, lx⟩ := len_is h2
    obtain ⟨a, b, rfl⟩ := two_of lx
    obtain ⟨va, rfl, hva⟩ := parts_at hx
    have hPu := hP.up
    have pa := (hPu.2 _ hx).1 a (by simp)
    have pb := (hPu.2 _ hx).1 b (by simp)
    have er := rowR_two (n := n) (ts := ts) hx
    refine ⟨.ref va, rfl, va, _, rfl, SqT.of hva, rfl, _, _, rfl, _, _, rfl, rfl, ?_⟩
    refine ⟨b, rfl, 1, b, rfl, pb.kn, _, rfl, ?_⟩
    cases hw : wfrom 1 b with
    | false =>
      have e : rowOk H n ts lim.length given (.ref va) = false := by
        unfold rowOk
        rw [er, hw]
        rfl
      rw [e] at q
      exact q _ (Kt.refl hT)
    | true =>
    refine ⟨wv, rfl, a, rfl, wv, n, ts, a, rfl, hW, ok, pa.thing, hT, fun H1 k1 => ⟨_, rfl, ?_⟩⟩
    cases ho : oddB H n ts a with
    | false =>
      have e : rowOk H n ts lim.length given (.ref va) = false := by
        unfold rowOk
        rw [er, hw, ho]
        rfl
      rw [e] at q
      exact q _ k1
    | true =>
    obtain ⟨ra, ta, p, en, rfl, hra, hta, et, hen, nen, len⟩ := odd_ties ho
    have eR : rowOk H n ts lim.length given (.ref va) = en.all fun e => decide (e ∈ given) || decide ((lim.length : Int) ≤ e) := by
      unfold rowOk
      rw [er, hw, ho, et]
      rfl
    rw [eR] at q
    have T1 : Tabs Ps H1 := k1.tab
    have fts := ok.few
    refine ⟨.ref ra, rfl, ra, _, 1, .ref ta, rfl, rfl, SqT.of (k1.tup hT hra), rfl, ta, rfl, ⟨_, SqT.of (k1.tup hT hta)⟩, ?_⟩
    refine ⟨T1 Pt hPt, fun j m H' => j + m = en.length ∧ Kt Ps H H' ∧ (en.take j).all (fun e => decide (e ∈ given) || decide ((lim.length : Int) ≤ e)) = true, fun H2 hH2 => ⟨en.length, by omega, k1.trans (Kt.tabbed T1 hPt hH2), rfl⟩, fun j m H' hw => ?_⟩
    obtain ⟨em, kt, hal⟩ := hw
    have hta' := kt.tup hT hta
    by_cases hj : j < en.length
    · refine .inr ⟨⟨_, _, SqT.of hta', List.getElem?_eq_getElem (by rw [List.length_map]; exact hj)⟩, fun H3 => Kt Ps H H3 ∧ (en.take (j + 1)).all (fun e => decide (e ∈ given) || decide ((lim.length : Int) ≤ e)) = true, fun H3 n3 => ⟨m - 1, by omega, by omega, n3.1, n3.2⟩, fun x H3 hy => ?_⟩
      obtain ⟨rfl, fy⟩ := hy
      have ex := fy _ (SqT.of hta')
      rw [List.getElem?_map, List.getElem?_eq_getElem hj] at ex
      cases ex
      have ee := List.getElem?_eq_getElem hj
      refine ⟨rfl, .int en[j], rfl, .ref gv, rfl, gv, _, rfl, DGet.k (k := Sum.inl en[j]) (kt.dct hT hgiv), ?_⟩
      rw [kvG_some]
      cases hb : decide (en[j] ∈ given) with
      | true => exact ⟨_, rfl, _, rfl, kt, (take_all ee hal).trans (by rw [hb]; rfl)⟩
      | false =>
        refine ⟨_, rfl, .int en[j], rfl, .ref lv, rfl, lv, _, rfl, .inl (SqL.of (kt.lst hT hlim)), _, _, rfl, rfl, _, rfl, ?_⟩
        rw [List.length_map]
        cases hc : decide (en[j] ≥ (lim.length : Int)) with
        | true => exact ⟨kt, (take_all ee hal).trans (by rw [hb]; exact hc)⟩
        | false =>
          have no : (en.all fun e => decide (e ∈ given) || decide ((lim.length : Int) ≤ e)) = false := all_not ee (by rw [hb]; exact hc)
          rw [no] at q
          exact q _ kt
    · refine .inl ⟨⟨_, SqT.of hta', by rw [List.length_map]; omega⟩, ?_⟩
      rw [List.take_of_length_le (by omega)] at hal
      rw [hal] at q
      exact q _ kt
end
/-! ### papers: what rings show -/
def kvI (ks : List Int) (f : Int → Int) : List (Key × V) := ks.map fun k => (Sum.inl k, V.int (f k))
def addI (ks : List Int) (x : Int) : List Int := if x ∈ ks then ks else ks ++ [x]
theorem addI_mem {ks : List Int} {x y : Int} : y ∈ addI ks x ↔ y ∈ ks ∨ y = x := by
  unfold addI
  split
  · rename_i h
    exact ⟨.inl, fun z => z.elim id fun e => e ▸ h⟩
  · simp
theorem addI_nd {ks : List Int} {x : Int} (nd : ks.Nodup) : (addI ks x).Nodup := by
  unfold addI
  split
  · exact nd
  · rename_i h
    exact List.nodup_append.mpr ⟨nd, by simp, fun a ha b hb e => h (by rw [List.mem_singleton.mp hb] at e; exact e ▸ ha)⟩
theorem kvI_val {f : Int → Int} {x : Int} : ∀ {ks : List Int}, valV (kvI ks f) (Sum.inl x) = if x ∈ ks then some (.int (f x)) else none
  | [] => rfl
  | k :: ks => by
    show valV ((Sum.inl k, V.int (f k)) :: kvI ks f) (Sum.inl x) = _
    by_cases e : k = x
    · rw [valV_pos (p := ((Sum.inl k : Key), V.int (f k))) (show (Sum.inl k : Key) = Sum.inl x by rw [e]), e, if_pos List.mem_cons_self]
    · rw [valV_neg (p := ((Sum.inl k : Key), V.int (f k))) (show ¬ (Sum.inl k : Key) = Sum.inl x from fun z => e (Sum.inl.inj z)), kvI_val (ks := ks)]
      by_cases h : x ∈ ks
      · rw [if_pos h, if_pos (List.mem_cons_of_mem _ h)]
      · rw [if_neg h, if_neg fun z => h ((List.mem_cons.mp z).resolve_left fun q => e q.symm)]
theorem kvI_get {f : Int → Int} {ks : List Int} {x : Int} (h0 : x ∉ ks → f x = 0) : (valV (kvI ks f) (Sum.inl x)).getD (.int 0) = .int (f x) := by
  rw [kvI_val]
  by_cases h : x ∈ ks
  · rw [if_pos h]; rfl
  · rw [if_neg h, h0 h]; rfl
theorem kvI_put {f g : Int → Int} {ks : List Int} {x : Int} (hg : ∀ k, g k = if k = x then g x else f k) : putK (kvI ks f) (Sum.inl x) (.int (g x)) = kvI (addI ks x) g := by
  have same : ∀ k, k ≠ x → g k = f k := fun k hk => by rw [hg k, if_neg hk]
  unfold putK
  rw [valV_any, kvI_val]
  unfold addI
  by_cases h : x ∈ ks
  · rw [if_pos h, if_pos h]
    show List.map (fun kv : Key × V => if kv.1 = Sum.inl x then (kv.1, V.int (g x)) else kv) (kvI ks f) = _
    unfold kvI
    rw [List.map_map]
    refine List.map_congr_left fun k _ => ?_
    show (if (Sum.inl k : Key) = Sum.inl x then ((Sum.inl k : Key), V.int (g x)) else (Sum.inl k, V.int (f k))) = _
    by_cases e : k = x
    · rw [e, if_pos rfl]
    · rw [if_neg fun z => e (Sum.inl.inj z), same k e]
  · rw [if_neg h, if_neg h, if_neg (by simp)]
    unfold kvI
    rw [List.map_append]
    refine congr (congrArg _ (List.map_congr_left fun k hk => ?_)) rfl
    rw [same k fun z => h (z ▸ hk)]
def optV : Option Int → V
  | none => .non
  | some k => .int k
theorem loadR_snoc (xs : List (List Int × Int)) (x : List Int × Int) (e : Int) : loadR (xs ++ [x]) e = loadR xs e + (if e ∈ x.1 then x.2 else 0) := by
  unfold loadR
  rw [List.map_append, List.sum_append]
  simp
theorem totR_snoc (xs : List (List Int × Int)) (x : List Int × Int) : totR (xs ++ [x]) = totR xs + x.2 := by
  unfold totR
  rw [List.map_append, List.sum_append]
  simp
def tiesR (xs : List (List Int × Int)) : List Int := xs.flatMap (·.1)
theorem tiesR_snoc (xs : List (List Int × Int)) (x : List Int × Int) : tiesR (xs ++ [x]) = tiesR xs ++ x.1 := by
  unfold tiesR
  rw [List.flatMap_append]
  simp
theorem loadR_out {xs : List (List Int × Int)} {e : Int} (h : e ∉ tiesR xs) : loadR xs e = 0 := by
  induction xs with
  | nil => rfl
  | cons x xs ih =>
    have h1 : e ∉ x.1 := fun z => h (by unfold tiesR; rw [List.flatMap_cons]; exact List.mem_append_left _ z)
    have h2 : e ∉ tiesR xs := fun z => h (by unfold tiesR; rw [List.flatMap_cons]; exact List.mem_append_right _ z)
    have := ih h2
    unfold loadR at this ⊢
    rw [List.map_cons, List.sum_cons, this, if_neg h1]
    rfl
theorem fitR_iff {lim : List Int} {xs : List (List Int × Int)} : fitR lim xs = (tiesR xs).all fun e => decide ((lim.length : Int) ≤ e) || decide (loadR xs e ≤ lim.getD e.toNat 0) := by
  unfold fitR tiesR
  rw [List.all_flatMap]
theorem givR_snoc (m : Nat) (given : List Int) (xs : List (List Int × Int)) (x : List Int × Int) : givR m given (xs ++ [x]) = (givR m given xs && x.1.all fun e => decide (e ∈ given) || decide ((m : Int) ≤ e)) := by
  unfold givR
  rw [List.all_append]
  simp
theorem all_false_of {α : Type} {xs : List α} {p : α → Bool} {x : α} (h : x ∈ xs) (hp : p x = false) : xs.all p = false := by
  rw [Bool.eq_false_iff]
  intro z
  rw [List.all_eq_true] at z
  rw [z x h] at hp
  cases hp
/-- the rows told so far -/
structure ToldR (H : Hp) (n : Int) (ts : List Tie) (lim given : List Int) (rows : List V) (i : Nat) (xs : List (List Int × Int)) : Prop where
  fold : (rows.take i).foldl (stepR H n ts) (some []) = some xs
  giv : givR lim.length given xs = true
  ties : ∀ e ∈ tiesR xs, 0 ≤ e ∧ e < (ts.length : Int)
theorem ringsS_off {H : Hp} {n : Int} {ts : List Tie} {lim given : List Int} {rows : List V} {i : Nat} {xs : List (List Int × Int)} {r : V} (T : ToldR H n ts lim given rows i xs) (e : rows[i]? = some r) (h : rowOk H n ts lim.length given r = false) : ringsS H n ts lim given rows = none := by
  unfold ringsS
  have ef := fold_at (f := stepR H n ts) (b := some []) e
  rw [T.fold] at ef
  have ef : (rows.take (i + 1)).foldl (stepR H n ts) (some []) = match rowR H n ts r with | none => none | some x => some (xs ++ [x]) := ef
  unfold rowOk at h
  cases hr : rowR H n ts r with
  | none =>
    rw [hr] at ef
    rw [fold_off (stepR_none H n ts) ef]
  | some x =>
    rw [hr] at ef h
    have ef : (rows.take (i + 1)).foldl (stepR H n ts) (some []) = some (xs ++ [x]) := ef
    have h : (x.1.all fun e => decide (e ∈ given) || decide ((lim.length : Int) ≤ e)) = false := h
    have e2 : rows = rows.take (i + 1) ++ rows.drop (i + 1) := (List.take_append_drop ..).symm
    rw [e2, List.foldl_append, ef]
    have more : ∀ (rs : List V) (ys : List (List Int × Int)), givR lim.length given ys = false → (match rs.foldl (stepR H n ts) (some ys) with | none => none | some xs => if givR lim.length given xs && fitR lim xs then some ((totR xs + 1) / 2) else none) = (none : Option Int) := fun rs => by
      induction rs with
      | nil =>
        intro ys hy
        show (if givR lim.length given ys && fitR lim ys then some ((totR ys + 1) / 2) else none) = none
        rw [hy]
        rfl
      | cons r rs ih =>
        intro ys hy
        rw [List.foldl_cons]
        have es : stepR H n ts (some ys) r = match rowR H n ts r with | none => none | some x => some (ys ++ [x]) := rfl
        rw [es]
        cases rowR H n ts r with
        | none => rw [fold_none (stepR_none H n ts)]
        | some z => exact ih (ys ++ [z]) (by rw [givR_snoc, hy]; rfl)
    exact more _ _ (by rw [givR_snoc, h, Bool.and_false])
theorem rowOk_is {H : Hp} {n : Int} {ts : List Tie} {m : Nat} {given : List Int} {v : V} (h : rowOk H n ts m given v = true) : ∃ (va ra ta : Addr) (p : V) (en : List Int) (t : Int), v = .ref va ∧ H va = some (.tup [.ref ra, .int t]) ∧ H ra = some (.tup [p, .ref ta]) ∧ H ta = some (.tup (en.map V.int)) ∧ rowR H n ts v = some (en, t) ∧ 1 ≤ t ∧ (∀ e ∈ en, 0 ≤ e ∧ e < (ts.length : Int)) ∧ en.Nodup ∧ en.length ≤ ts.length ∧ (en.all fun e => decide (e ∈ given) || decide ((m : Int) ≤ e)) = true := by
  unfold rowOk at h
  cases e : rowR H n ts v with
  | none => rw [e] at h; cases h
  | some x =>
    rw [e] at h
    cases ep : parts H v with
    | none => unfold rowR at e; rw [ep] at e; cases e
    | some xs =>
      obtain ⟨va, rfl, hva⟩ := parts_at ep
      cases h2 : lenIs H (.ref va) 2 with
      | false => rw [rowR_not h2] at e; cases e
      | true =>
        obtain ⟨ys, hy, ly⟩ := len_is h2
        rw [ep] at hy
        obtain rfl := Option.some.inj hy
        obtain ⟨a, b, rfl⟩ := two_of ly
        rw [rowR_two ep] at e
        cases hw : (wfrom 1 b && oddB H n ts a) with
        | false => rw [hw] at e; cases e
        | true =>
          rw [hw, if_pos rfl] at e
          obtain rfl := Option.some.inj e
          rw [Bool.and_eq_true] at hw
          obtain ⟨ra, ta, p, en, rfl, hra, hta, et, hen, nen, len⟩ := odd_ties hw.2
          cases b with
          | int t =>
            have h1 : 1 ≤ t := of_decide_eq_true hw.1
            exact ⟨va, ra, ta, p, en, t, rfl, hva, hra, hta, by rw [et]; rfl, h1, hen, nen, len, by rw [et] at h; exact h⟩
          | _ => exact absurd hw.1 Bool.false_ne_true
def spRingsShow (Ps : List Addr) : Sp := fun vs H Q _ => ∃ (wv : V) (lv gv rv : Addr) (n : Int) (ts : List Tie) (lim given : List Int) (rows : List V) (d : Nat), vs = [wv, .ref lv, .ref gv, .ref rv] ∧ KnotAt H wv lv gv n ts lim given ∧ H rv = some (.tup rows) ∧ (∀ r ∈ rows, PapV d H r) ∧ rows.length ≤ 1000 ∧ Tabs Ps H ∧ ∀ H', Kt Ps H H' → Q (optV (ringsS H n ts lim given rows)) H'
section
variable {P : Program} {w : World} {K : PySem.W.Frag} {mg : Str → Option Value} {base : Heap}
set_option maxHeartbeats 4000000 in
theorem ok_rings_show {f c Pt : Addr} {fd : FuncData} {Ps : List Addr} (F : FunC K "rings_show" "rings_show" s_rings_show f fd c) (TB : GxR.TabB base mg c Pt) (hPt : Pt ∈ Ps) (M : Free mg) (m_any : mg "any" = none) (D_is_ring_row : Df P w K mg base 9 "is_ring_row" ["web", "limits", "given", "thing"] (spRingRow Ps)) : FnOk P w K mg base CX0 11 f fd ["web", "limits", "given", "rows"] (spRingsShow Ps) := by
  obtain ⟨f_is_ring_row, fd_is_ring_row, G_is_ring_row, g_is_ring_row, k_is_ring_row, b_is_ring_row⟩ := D_is_ring_row
  refine F.ok sc_rings_show (fun vs H Q E h => ?_) (fun A outer s H vs Q E hr h => ?_)
  · obtain ⟨wv, lv, gv, rv, n, ts, lim, given, rows, d, rfl, _⟩ := h
    rfl
  · obtain ⟨wv, lv, gv, rv, n, ts, lim, given, rows, d, rfl, hK, hrv, hP, lr, hT, q⟩ := h
    have hu := room1 hr
    refine ⟨_, (pss_cons (ps_set (i := 4) sc_rings_show.nd rfl (.inl rfl) pe_int)
      (pss_cons (ps_set (i := 5) sc_rings_show.nd rfl (.inr rfl) pe_dnewK)
      (pss_cons (ps_for PassesOwn.never rfl (pi_tup (pv 3)) (pg_name (i := 6) sc_rings_show.nd rfl (.inl rfl))
        (pss_cons (ps_if (pt_not (pt_val (pe_call G_is_ring_row (hr.mono (by decide)) (by rfl) g_is_ring_row k_is_ring_row b_is_ring_row .nil pass0 (pa_cons (pv 0) (pa_cons (pv 1) (pa_cons (pv 2) (pa_cons (pv 6) pa_nil)))))))
          (pss_one (ps_ret pe_non))
          pss_nil)
        (pss_cons (ps_asg (pv 6) (pg_tup rfl (pgs_cons (pg_name (i := 7) sc_rings_show.nd rfl (.inl rfl)) (pgs_cons (pg_name (i := 8) sc_rings_show.nd rfl (.inl rfl)) pgs_nil))))
        (pss_cons (ps_aug (i := 4) sc_rings_show.nd rfl (.inl rfl) (pv 8) ip_add)
        (pss_one (ps_for PassesOwn.never rfl (pi_tup (pe_ix ix_tup (pv 7) pe_int (fun _ _ => rfl))) (pg_name (i := 9) sc_rings_show.nd rfl (.inl rfl))
          (pss_one (ps_dput hu (pv 5) (pv 9) (pe_op op_add (pe_dget2 hu (pv 5) (pv 9) pe_int ⟨rfl, rfl, rfl, rfl⟩) (pv 8)) rfl))))))))
      (pss_cons (ps_if (pt_val (pe_lock (pe_any (k := 9) (own := [("tie", 9)]) (g := gName 9) hr TB rfl rfl sc_rings_show.nd (by rfl) m_any (pi_keys (pv 5)) (blkOk_by (N := N_rings_show) (sc := defScope s_rings_show) (own := [("tie", 9)]) (by decide +kernel)) ⟨rfl, by decide +kernel, by decide +kernel⟩ (show (".0" : Str) ∉ N_rings_show by decide +kernel) (fun _ _ _ _ _ _ _ => (pg_name (i := 9) sc_rings_show.nd rfl (.inl rfl))) (fun _ _ _ _ _ _ _ hr' => (pe_and (pe_cmpR op_lt (pv 9) (pe_callB (r := rLen49 K) call_len_seq (by rfl) M.len PySem.boot_len (pa_cons (pv 1) pa_nil)) (nomark _)) (pe_one (pe_cmpR op_gt (pe_dget (room1 hr') (pv 5) (pv 9) (fun _ _ => rfl)) (pe_ix (r := rIxL K) ix_list (pv 1) (pv 9) (fun _ _ => rfl)) (nomark _))))))))
        (pss_one (ps_ret pe_non))
        pss_nil)
      (pss_one (ps_ret (pe_op op_fdiv (pe_op op_add (pv 4) pe_int) pe_int))))))), ?_⟩
    have fts := hK.ok.few
    refine fun D nD => ?_
    have sD := same_new (o := .dK []) nD
    have kD := Kt.same hT sD
    have hD1 : (upd H D (.dK [])) D = some (.dK (kvI [] (loadR []))) := upd_same
    generalize upd H D (.dK []) = H1 at sD kD hD1
    have hrv1 := kD.tup hT hrv
    refine ⟨.ref rv, rfl, rv, rfl, ⟨_, SqT.of hrv1⟩, ?_⟩
    refine for_tup (xs := rows) (fun i σ' H' => ∃ (y6 y7 y8 y9 : Option V) (xs : List (List Int × Int)) (ks : List Int), σ' = [some wv, some (.ref lv), some (.ref gv), some (.ref rv), some (.int (totR xs)), some (.ref D), y6, y7, y8, y9] ∧ ToldR H n ts lim given rows i xs ∧ H' D = some (.dK (kvI ks (loadR xs))) ∧ ks.Nodup ∧ (∀ e, e ∈ ks ↔ e ∈ tiesR xs) ∧ Kt Ps H H') ⟨none, none, none, none, [], [], rfl, ⟨rfl, rfl, fun e he => (by cases he)⟩, hD1, List.nodup_nil, fun e => Iff.rfl, kD⟩ (fun i σ' H' _ h => by
      obtain ⟨_, _, _, _, _, _, _, _, _, _, _, k⟩ := h
      exact SqT.of (k.tup hT hrv)) ?_ ?_
    · clear hD1 kD sD hrv1
      rintro i r σ' H2 er ⟨y6, y7, y8, y9, xs, ks, rfl, T, hD, nk, mk, k2⟩
      have T2 : Tabs Ps H2 := k2.tab
      have pr := hP r (List.mem_of_getElem? er)
      refine ⟨wv, rfl, .ref lv, rfl, .ref gv, rfl, r, rfl, wv, lv, gv, r, n, ts, lim, given, d, rfl, hK.kt k2 hT, pr.stay (.kt k2 hT), T2, fun H3 k3 => ⟨_, rfl, ?_⟩⟩
      have eo : rowOk H2 n ts lim.length given r = rowOk H n ts lim.length given r := by
        unfold rowOk
        rw [rowR_stay pr (.kt k2 hT)]
      rw [eo]
      have k03 := k2.trans k3
      have hD3 := k3.dct T2 hD
      cases ho : rowOk H n ts lim.length given r with
      | false =>
        have := q _ k03
        rw [ringsS_off T er ho] at this
        exact this
      | true =>
      obtain ⟨va, ra, ta, p, en, t, rfl, hva, hra, hta, eR, t1, hen, nen, len, hg⟩ := rowOk_is ho
      have hva3 := k03.tup hT hva
      have hra3 := k03.tup hT hra
      have hta3 := k03.tup hT hta
      refine ⟨.ref va, rfl, va, _, rfl, SqT.of hva3, rfl, _, _, rfl, _, _, rfl, rfl, ?_⟩
      refine ⟨.int (totR xs), rfl, .int t, rfl, totR xs, t, rfl, rfl, ?_⟩
      refine ⟨.ref ra, rfl, ra, _, 1, .ref ta, rfl, rfl, SqT.of hra3, rfl, ta, rfl, ⟨_, SqT.of hta3⟩, ?_⟩
      have T' : ToldR H n ts lim given rows (i + 1) (xs ++ [(en, t)]) := by
        refine ⟨?_, by rw [givR_snoc, T.giv]; exact hg, fun e he => ?_⟩
        · rw [fold_at er, T.fold]
          show (match rowR H n ts (.ref va) with | none => none | some x => some (xs ++ [x])) = _
          rw [eR]
        · rw [tiesR_snoc] at he
          rcases List.mem_append.mp he with z | z
          · exact T.ties e z
          · exact hen e z
      refine for_tup (xs := en.map V.int) (fun j σ' H' => ∃ (y9 : Option V) (ks : List Int), σ' = [some wv, some (.ref lv), some (.ref gv), some (.ref rv), some (.int (totR xs + t)), some (.ref D), some (.ref va), some (.ref ra), some (.int t), y9] ∧ H' D = some (.dK (kvI ks (loadR (xs ++ [(en.take j, t)])))) ∧ ks.Nodup ∧ (∀ e, e ∈ ks ↔ e ∈ tiesR xs ∨ e ∈ en.take j) ∧ Kt Ps H H') ⟨_, ks, rfl, ?_, nk, fun e => by rw [mk e]; simp, k03⟩ (fun j σ' H' _ h => by
        obtain ⟨_, _, _, _, _, _, k⟩ := h
        exact SqT.of (k.tup hT hta)) ?_ ?_
      · have : (loadR (xs ++ [(en.take 0, t)])) = loadR xs := by
          funext e
          rw [loadR_snoc]
          simp
        rw [this]
        exact hD3
      · clear hD3 hva3 hra3 hta3 hD
        rintro j x σ' H4 ex ⟨y9, ks', rfl, hD, nk', mk', k4⟩
        rw [List.getElem?_map] at ex
        obtain ⟨e, ee, rfl⟩ := Option.map_eq_some_iff.mp ex
        have jl := (List.getElem?_eq_some_iff.mp ee).1
        have hemem := List.mem_of_getElem? ee
        have lk : ks'.length ≤ ts.length := pigeon49 ks' nk' fun z hz => by
          rcases (mk' z).mp hz with h | h
          · exact T.ties z h
          · exact hen z (List.mem_of_mem_take h)
        have enj : e ∉ en.take j := fun z => by
          obtain ⟨i', hi'⟩ := List.getElem?_of_mem z
          have il := (List.getElem?_eq_some_iff.mp hi').1
          rw [List.length_take] at il
          rw [List.getElem?_take_of_lt (by omega)] at hi'
          have h1 := (List.getElem?_eq_some_iff.mp hi')
          have h2 := (List.getElem?_eq_some_iff.mp ee)
          exact List.pairwise_iff_getElem.mp nen i' j h1.1 jl (by omega) (h1.2.trans h2.2.symm)
        have g1 : DGet H4 D (.int e) (valV (kvI ks' (loadR (xs ++ [(en.take j, t)]))) (Sum.inl e)) := DGet.k (k := Sum.inl e) hD
        refine ⟨.ref D, rfl, D, rfl, .inl ⟨_, .inl hD⟩, .int e, rfl, _, g1, ?_⟩
        rw [kvI_get fun z => by
          rw [loadR_snoc, loadR_out fun y => z ((mk' e).mpr (.inl y)), if_neg fun y => z ((mk' e).mpr (.inr y))]
          rfl]
        refine ⟨.int t, rfl, _, _, rfl, rfl, .ref D, rfl, .int e, rfl, D, _, rfl, DPut.k (k := Sum.inl e) hD (by unfold kvI; rw [List.length_map]; exact small1000 (by omega)), ?_⟩
        have et : en.take (j + 1) = en.take j ++ [e] := by rw [List.take_add_one, ee]; rfl
        have hg' : ∀ k, loadR (xs ++ [(en.take (j + 1), t)]) k = if k = e then loadR (xs ++ [(en.take (j + 1), t)]) e else loadR (xs ++ [(en.take j, t)]) k := fun k => by
          by_cases hk : k = e
          · rw [if_pos hk, hk]
          · rw [if_neg hk, loadR_snoc, loadR_snoc, et]
            simp [hk]
        have ev : loadR (xs ++ [(en.take j, t)]) e + t = loadR (xs ++ [(en.take (j + 1), t)]) e := by
          rw [loadR_snoc, loadR_snoc, et, if_neg enj, if_pos (by simp)]
          omega
        refine ⟨_, addI ks' e, rfl, ?_, addI_nd nk', fun z => ?_, k4.mutN hT nD⟩
        · rw [upd_same]
          show some (HO.dK (putK (kvI ks' (loadR (xs ++ [(en.take j, t)]))) (Sum.inl e) (.int (loadR (xs ++ [(en.take j, t)]) e + t)))) = _
          rw [ev, kvI_put hg']
        · rw [addI_mem, mk', et, List.mem_append, List.mem_singleton, or_assoc]
      · rintro σ' H4 ⟨y9, ks', rfl, hD, nk', mk', k4⟩
        rw [List.length_map, List.take_length] at hD
        refine ⟨_, _, _, _, xs ++ [(en, t)], ks', by rw [totR_snoc], T', hD, nk', fun e => ?_, k4⟩
        rw [mk', List.length_map, List.take_length, tiesR_snoc, List.mem_append]
    · rintro σ' H2 ⟨y6, y7, y8, y9, xs, ks, rfl, T, hD, nk, mk, k2⟩
      have T2 : Tabs Ps H2 := k2.tab
      have ef := T.fold
      rw [List.take_length] at ef
      have eS : ringsS H n ts lim given rows = if fitR lim xs then some ((totR xs + 1) / 2) else none := by
        unfold ringsS
        rw [ef]
        show (if givR lim.length given xs && fitR lim xs then _ else _) = _
        rw [T.giv]
        rfl
      rw [eS, fitR_iff] at q
      have hlim2 := k2.lst hT hK.lm
      have DP : ∀ P ∈ Ps, P ≠ D := fun P hP z => by
        obtain ⟨ps, e, _⟩ := T2 P hP
        rw [z, hD] at e
        cases e
      have lD : lv ≠ D := fun z => by rw [z, hD] at hlim2; cases hlim2
      refine ⟨D, _, hD, trivial, fun od => ?_⟩
      refine ⟨.ref D, rfl, D, od, rfl, .inl ⟨_, upd_same, ?_⟩⟩
      have hDf : (upd H2 D (.frz od (.dK (kvI ks (loadR xs))))) D = some (.frz od (.dK (kvI ks (loadR xs)))) := upd_same
      have hlimf : (upd H2 D (.frz od (.dK (kvI ks (loadR xs))))) lv = some (.lst (lim.map V.int)) := by rw [upd_ne lD]; exact hlim2
      have Tf : Tabs Ps (upd H2 D (.frz od (.dK (kvI ks (loadR xs))))) := fun P hP => by
        obtain ⟨ps, e, t⟩ := T2 P hP
        exact ⟨ps, by rw [upd_ne (DP P hP)]; exact e, t⟩
      have fin : ∀ H', Kt Ps (upd H2 D (.frz od (.dK (kvI ks (loadR xs))))) H' → Kt Ps H (upd H' D (.dK (kvI ks (loadR xs)))) := fun H' k => by
        refine ⟨fun P hP => ?_, fun b o hb e => ?_⟩
        · obtain ⟨ps, e, t⟩ := k.tab P hP
          exact ⟨ps, by rw [upd_ne (DP P hP)]; exact e, t⟩
        · have bD : b ≠ D := ne_of_none e nD
          rw [upd_ne bD]
          exact k.keep b o hb (by rw [upd_ne bD]; exact k2.keep b o hb e)
      have nDP : D ∉ Ps := fun z => DP D z rfl
      generalize upd H2 D (.frz od (.dK (kvI ks (loadR xs)))) = Hf at hDf hlimf Tf fin
      have lk : (kvI ks (loadR xs)).length = ks.length := by unfold kvI; rw [List.length_map]
      have okE : ∀ e ∈ ks, 0 ≤ e ∧ e < (ts.length : Int) := fun e he => T.ties e ((mk e).mp he)
      refine ⟨Tf Pt hPt, fun i m H' => i + m = ks.length ∧ Kt Ps Hf H' ∧ (ks.take i).all (fun e => decide ((lim.length : Int) ≤ e) || decide (loadR xs e ≤ lim.getD e.toNat 0)) = true, fun H3 hH3 => ⟨ks.length, by omega, Kt.tabbed Tf hPt hH3, rfl⟩, fun i m H' hw => ?_⟩
      obtain ⟨em, kt, hal⟩ := hw
      have hD' := kt.keep D _ nDP hDf
      have hlim' := kt.lst Tf hlimf
      by_cases hi : i < ks.length
      · refine .inr ⟨⟨hD', by rw [lk]; exact hi⟩, fun H3 => Kt Ps Hf H3 ∧ (ks.take (i + 1)).all (fun e => decide ((lim.length : Int) ≤ e) || decide (loadR xs e ≤ lim.getD e.toNat 0)) = true, fun H3 n3 => ⟨m - 1, by omega, by omega, n3.1, n3.2⟩, fun x H3 hy => ?_⟩
        obtain ⟨rfl, k, v, ek, rfl⟩ := hy
        obtain ⟨e, ee, ev⟩ : ∃ e, ks[i]? = some e ∧ ((Sum.inl e : Key), V.int (loadR xs e)) = (k, v) := by
          unfold kvI at ek
          rw [List.getElem?_map] at ek
          exact Option.map_eq_some_iff.mp ek
        cases ev
        have hmem := List.mem_of_getElem? ee
        have b0 := okE e hmem
        refine ⟨rfl, .int e, rfl, .ref lv, rfl, lv, _, rfl, .inl (SqL.of hlim'), _, _, rfl, rfl, _, rfl, ?_⟩
        rw [List.length_map]
        cases hc : decide (e < (lim.length : Int)) with
        | false =>
          have hc := of_decide_eq_false hc
          exact ⟨_, rfl, kt, (take_all ee hal).trans (by rw [decide_eq_true (show (lim.length : Int) ≤ e by omega)]; rfl)⟩
        | true =>
          have hc := of_decide_eq_true hc
          obtain ⟨w, ew⟩ : ∃ w, lim[e.toNat]? = some w := ⟨_, List.getElem?_eq_getElem (by omega)⟩
          have gw : lim.getD e.toNat 0 = w := by rw [List.getD_eq_getElem?_getD, ew]; rfl
          refine ⟨.ref D, rfl, .int e, rfl, D, .int (loadR xs e), rfl, .inl ⟨_, Sum.inl e, .inr ⟨od, hD'⟩, rfl, (by rw [kvI_val, if_pos hmem])⟩, .ref lv, rfl, .int e, rfl, lv, _, e, .int w, rfl, rfl, SqL.of hlim', atI_of b0.1 (by rw [List.getElem?_map, ew]; rfl), _, _, rfl, rfl, _, rfl, ?_⟩
          cases hl : decide (loadR xs e > w) with
          | false =>
            have hl := of_decide_eq_false hl
            exact ⟨kt, (take_all ee hal).trans (by rw [gw, decide_eq_true (show loadR xs e ≤ w by omega), Bool.or_true])⟩
          | true =>
            have hl := of_decide_eq_true hl
            have ef : ((tiesR xs).all fun e => decide ((lim.length : Int) ≤ e) || decide (loadR xs e ≤ lim.getD e.toNat 0)) = false := all_false_of ((mk e).mp hmem) (by rw [gw, decide_eq_false (show ¬ (lim.length : Int) ≤ e by omega), decide_eq_false (show ¬ loadR xs e ≤ w by omega)]; rfl)
            rw [ef] at q
            exact ⟨hD', _, rfl, q _ (fin _ kt)⟩
      · refine .inl ⟨⟨hD', by rw [lk]; omega⟩, hD', _, rfl, ?_⟩
        rw [List.take_of_length_le (by omega)] at hal
        have ef : ((tiesR xs).all fun e => decide ((lim.length : Int) ≤ e) || decide (loadR xs e ≤ lim.getD e.toNat 0)) = true := by
          rw [List.all_eq_true] at hal ⊢
          exact fun e he => hal e ((mk e).mpr he)
        rw [ef] at q
        exact ⟨.int (totR xs), rfl, _, 1, rfl, rfl, _, 2, rfl, rfl, ⟨by decide, by decide⟩, q _ (fin _ kt)⟩
end
/-! ### d.update(e) -/
/-! ### a dict made by a comprehension, put into a name -/
section
variable {X : Cx}
theorem ps_setDc {i : Nat} {y : Str} {py : Pos} {kx vx tg iter : Expr} {ifs : List Expr} {scope : Scope} {own : List (Str × Nat)} {pos spos : Pos} {wi : TI} {g : TG} {tt : TT} {tk tv : TE} (hc : X.calm = true) (hN : X.N.Nodup) (hy : X.N[i]? = some y) (hyl : X.env.scope.names.lookup y = some .local)
    (hsw : swapsWith (.DictComp kx vx [⟨tg, iter, ifs, 0⟩] scope pos) (some (.Name y py)) spos.line X.env = pure true) (hi : PI X tg iter wi) (ok : BlkOk X.N X.env.scope scope own)
    (hg : ∀ (s : Shared) (H : Hp) (C : Addr) (cl : List (Str × Addr)) (fp : List Addr), PG (X.blk s H scope (compEnvC scope cl C X.env) fp) tg g) (ht : ∀ (s : Shared) (H : Hp) (C : Addr) (cl : List (Str × Addr)) (fp : List Addr), PTs (X.blk s H scope (compEnvC scope cl C X.env) fp) ifs tt)
    (hk : ∀ (s : Shared) (H : Hp) (C : Addr) (cl : List (Str × Addr)) (fp : List Addr), PE (X.blk s H scope (compEnvC scope cl C X.env) fp) kx tk)
    (he : ∀ (s : Shared) (H : Hp) (C : Addr) (cl : List (Str × Addr)) (fp : List Addr), PE (X.blk s H scope (compEnvC scope cl C X.env) fp) vx tv) (hs : ∀ x, foldedSetIterable iter X.env x = pure x := by intro _; rfl) :
    PS X (.Assign [.Name y py] (.DictComp kx vx [⟨tg, iter, ifs, 0⟩] scope pos) spos) (tAsg (tDc wi g tt tk tv (own.map (·.2))) (gName i)) := by
  refine ⟨fun pins s σ H D I h => ?_⟩
  rw [exec_Assign_Name_used _ _ _ _ hsw]
  refine wpAny_bind (wpAny_standAt (wpAny_bind ?_))
  show wpAny _ X.A (do let _ ← comprehension (.DictComp kx vx [⟨tg, iter, ifs, 0⟩] scope pos) scope X.env (firstIterPos [⟨tg, iter, ifs, 0⟩] pos) newDict false (eval iter X.env) (some (assign (.Name y py) X.env))) _ _ s
  have h : tDc wi g tt tk tv (own.map (·.2)) σ H (fun x H1 => gName i x σ H1 D.nx) := h
  refine wpAny_bind (thn (dc_core (Qf := fun _ s' => SP X pins D .next s') hc hN I hi ok hg ht hk he hs h fun L C s' m H' I' q hn f => ?_) fun _ s' hq => wpAny_pure (wpAny_pure hq))
  show wpAny _ _ (assign (.Name y py) X.env (.ref L)) _ _ _
  refine wpAny_assign_Name (store_ok2 (v := V.ref L) I' hN hy (.inl hyl) rfl (fun s2 I2 ⟨a, sb, ha⟩ => ?_) (.inr hyl))
  obtain ⟨f0, f1, f2, f3, f4, f5⟩ := f
  have haC : C ≠ a := by
    rcases ha with z | z
    · rw [z]; exact f1
    · exact fun e => f4 y a z e.symm
  refine ⟨m, hn.sameBut sb haC, fun h3 sb3 => ?_⟩
  exact ⟨_, H', I2.turned (t' := s2.toks) (fun b o hb e => (sb3.2 b hb).trans e) f0 f1 f3 f4 f5, q⟩
theorem sw_trueD {kx vx : Expr} {gs : List Comprehension} {scope : Scope} {pos py : Pos} {y : Str} {l : Nat} {env : Env} (hk : env.scope.kind = .function) (hy : env.scope.names.lookup y = some .local) (hl : (py.line == pos.line) = true)
    (ha : (scope.names.any fun (n, k) => n == y && (k == .local || k == .cell)) = false) : swapsWith (.DictComp kx vx gs scope pos) (some (.Name y py)) l env = pure true := by
  have ky : env.kindOf y = some .local := hy
  have hb : env.blockKind = .function := by unfold Env.blockKind; rw [hk]; rfl
  unfold swapsWith
  simp only [hb, ky, ha, Expr.pos, hl]
  rfl
end
/-! ### papers: splits, cases, knots -/
theorem chain_ints49 : ∀ {ns : List Int}, chainB (ns.map V.int) = true → ns.Pairwise (· < ·)
  | [], _ => .nil
  | [_], _ => List.pairwise_singleton ..
  | a :: b :: ns, h => by
    have h : (decide (a < b) && chainB ((b :: ns).map V.int)) = true := h
    rw [Bool.and_eq_true, decide_eq_true_iff] at h
    have t := chain_ints49 h.2
    refine .cons (fun x hx => ?_) t
    rcases List.mem_cons.mp hx with z | z
    · rw [z]
      exact h.1
    · have := (List.pairwise_cons.mp t).1 x z
      have := h.1
      omega
theorem rise_is {H : Hp} {m : Nat} {t : V} (h : riseB H m t = true) : ∃ (ta : Addr) (es : List Int), t = .ref ta ∧ H ta = some (.tup (es.map V.int)) ∧ (∀ e ∈ es, 0 ≤ e ∧ e < (m : Int)) ∧ es.Pairwise (· < ·) ∧ ((parts H t).getD []).map toI = es := by
  unfold riseB at h
  cases e : parts H t with
  | none => rw [e] at h; cases h
  | some xs =>
    rw [e] at h
    have h : (xs.all (wbelow m) && chainB xs) = true := h
    rw [Bool.and_eq_true] at h
    obtain ⟨ta, rfl, hta⟩ := parts_at e
    obtain ⟨es, rfl, hes⟩ := ints_of h.1
    exact ⟨ta, es, rfl, hta, hes, chain_ints49 h.2, toI_map es⟩
def splitOk (H : Hp) (m : Nat) (given taken : List Int) (r : V) : Bool := match rowT H m r with
  | some x => x.1.all fun e => decide (e ∈ given) && !decide (e ∈ taken)
  | none => false
theorem rowT_not {H : Hp} {m : Nat} {v : V} (h : lenIs H v 2 = false) : rowT H m v = none := by
  unfold rowT
  cases e : parts H v with
  | none => rfl
  | some xs =>
    have := two_not h e
    match xs, this with
    | [], _ => rfl
    | [_], _ => rfl
    | [a, b], t => exact (t a b rfl).elim
    | _ :: _ :: _ :: _, _ => rfl
theorem rowT_two {H : Hp} {m : Nat} {v a b : V} (h : parts H v = some [a, b]) : rowT H m v = if riseB H m a = true then some (((parts H a).getD []).map toI, b) else none := by
  unfold rowT
  rw [h]
theorem rowT_pap1 {d : Nat} {H : Hp} {m : Nat} {r : V} {es : List Int} {p : V} (h : PapV (d + 1) H r) (e : rowT H m r = some (es, p)) : PapV d H p := by
  obtain ⟨t, h1, _, _⟩ := rowT_is e
  exact (h.2 _ h1).1 p (by simp)
theorem kvG_put {ks : List Int} {x : Int} (h : x ∉ ks) : putK (kvG ks) (Sum.inl x) (.bl true) = kvG (ks ++ [x]) := by
  unfold putK
  rw [valV_any, kvG_val, if_neg h, if_neg (by simp)]
  unfold kvG
  rw [List.map_append]
  rfl
theorem kvG_merge : ∀ {es ks : List Int}, es.Nodup → (∀ e ∈ es, e ∉ ks) → mergeK (kvG ks) (kvG es) = kvG (ks ++ es)
  | [], ks, _, _ => by rw [List.append_nil]; rfl
  | e :: es, ks, nd, no => by
    have nd' := List.nodup_cons.mp nd
    show mergeK (putK (kvG ks) (Sum.inl e) (.bl true)) (kvG es) = _
    rw [kvG_put (no e List.mem_cons_self), kvG_merge nd'.2 fun x hx z => ?_, List.append_assoc]
    · rfl
    · rcases List.mem_append.mp z with z | z
      · exact no x (List.mem_cons_of_mem _ hx) z
      · rw [List.mem_singleton.mp z] at hx
        exact nd'.1 hx
def spSplitRow (Ps : List Addr) : Sp := fun vs H Q _ => ∃ (lv gv tv : Addr) (v : V) (lim given taken : List Int) (d : Nat), vs = [.ref lv, .ref gv, .ref tv, v] ∧ H lv = some (.lst (lim.map V.int)) ∧ H gv = some (.dK (kvG given)) ∧ H tv = some (.dK (kvG taken)) ∧ PapV d H v ∧ Tabs Ps H ∧ ∀ H', Kt Ps H H' → Q (.bl (splitOk H lim.length given taken v)) H'
section
variable {P : Program} {w : World} {K : PySem.W.Frag} {mg : Str → Option Value} {base : Heap}
set_option maxHeartbeats 2000000 in
theorem ok_is_split_row {f c Pt : Addr} {fd : FuncData} {Ps : List Addr} (F : FunC K "is_split_row" "is_split_row" s_is_split_row f fd c) (TB : GxR.TabB base mg c Pt) (hPt : Pt ∈ Ps) (M : Free mg) (m_all : mg "all" = none) (D_are_rising_below : Df P w K mg base 4 "are_rising_below" ["limit", "thing"] (spRising Ps)) (D_is_tuple_of : Df P w K mg base 1 "is_tuple_of" ["length", "thing"] spTupleOf) : FnOk P w K mg base CX0 6 f fd ["limits", "given", "taken", "thing"] (spSplitRow Ps) := by
  obtain ⟨f_are_rising_below, fd_are_rising_below, G_are_rising_below, g_are_rising_below, k_are_rising_below, b_are_rising_below⟩ := D_are_rising_below
  obtain ⟨f_is_tuple_of, fd_is_tuple_of, G_is_tuple_of, g_is_tuple_of, k_is_tuple_of, b_is_tuple_of⟩ := D_is_tuple_of
  refine F.ok sc_is_split_row (fun vs H Q E h => ?_) (fun A outer s H vs Q E hr h => ?_)
  · obtain ⟨lv, gv, tv, v, lim, given, taken, d, rfl, _⟩ := h
    rfl
  · obtain ⟨lv, gv, tv, v, lim, given, taken, d, rfl, hlim, hgiv, htk, hP, hT, q⟩ := h
    have hu := room1 hr
    refine ⟨_, (pss_cons (ps_if (PW.pt (pw_or (pt_not (pt_val (pe_call G_is_tuple_of (hr.mono (by decide)) (by rfl) g_is_tuple_of k_is_tuple_of b_is_tuple_of .nil pass0 (pa_cons pe_int (pa_cons (pv 3) pa_nil))))) (pw_or1 (pt_not (pt_val (pe_call G_are_rising_below (hr.mono (by decide)) (by rfl) g_are_rising_below k_are_rising_below b_are_rising_below .nil pass0 (pa_cons (pe_callB call_len_seq (by rfl) M.len PySem.boot_len (pa_cons (pv 0) pa_nil)) (pa_cons (pe_ix ix_tup (pv 3) pe_int (fun _ _ => rfl)) pa_nil))))))))
        (pss_one (ps_ret pe_bl))
        pss_nil)
      (pss_one (ps_ret (pe_all (k := 4) (own := [("tie", 4)]) (g := gName 4) hr TB rfl rfl sc_is_split_row.nd (by rfl) m_all (pi_tup (pe_ix ix_tup (pv 3) pe_int (fun _ _ => rfl))) (blkOk_by (N := N_is_split_row) (sc := defScope s_is_split_row) (own := [("tie", 4)]) (by decide +kernel)) ⟨rfl, by decide +kernel, by decide +kernel⟩ (show (".0" : Str) ∉ N_is_split_row by decide +kernel) (fun _ _ _ _ _ _ _ => (pg_name (i := 4) sc_is_split_row.nd rfl (.inl rfl))) (fun _ _ _ _ _ _ _ hr' => (pe_and (pe_cmp (pc_din (room1 hr') (pv 4) (pv 1))) (pe_one (pe_cmp (pc_dnotin (room1 hr') (pv 4) (pv 2)))))))))), ?_⟩
    have kv := hP.kn
    refine ⟨v, rfl, 2, v, rfl, kv, _, rfl, ?_⟩
    cases h2 : lenIs H v 2 with
    | false =>
      have e : splitOk H lim.length given taken v = false := by
        unfold splitOk
        rw [rowT_not h2]
      rw [e] at q
      exact q _ (Kt.refl hT)
    | true =>
    obtain ⟨xs, hx, lx⟩ := len_is h2
    obtain ⟨a, b, rfl⟩ := two_of lx
    obtain ⟨va, rfl, hva⟩ := parts_at hx
    have pa := (hP.up.2 _ hx).1 a (by simp)
    have er := rowT_two (m := lim.length) hx
    refine ⟨.ref lv, rfl, lv, _, rfl, .inl (SqL.of hlim), .ref va, rfl, va, _, 0, a, rfl, rfl, SqT.of hva, rfl, lim.length, a, ?_, pa.row, hT, fun H1 k1 => ⟨_, rfl, ?_⟩⟩
    · rw [List.length_map]
      rfl
    cases ho : riseB H lim.length a with
    | false =>
      have e : splitOk H lim.length given taken (.ref va) = false := by
        unfold splitOk
        rw [er, if_neg (by rw [ho]; exact Bool.false_ne_true)]
      rw [e] at q
      exact q _ k1
    | true =>
    obtain ⟨ta, es, rfl, hta, hes, hpw, et⟩ := rise_is ho
    have T1 : Tabs Ps H1 := k1.tab
    have eR : splitOk H lim.length given taken (.ref va) = es.all fun e => decide (e ∈ given) && !decide (e ∈ taken) := by
      unfold splitOk
      rw [er, if_pos ho, et]
    rw [eR] at q
    refine ⟨.ref va, rfl, va, _, 0, .ref ta, rfl, rfl, SqT.of (k1.tup hT hva), rfl, ta, rfl, ⟨_, SqT.of (k1.tup hT hta)⟩, ?_⟩
    refine ⟨T1 Pt hPt, fun j m H' => j + m = es.length ∧ Kt Ps H H' ∧ (es.take j).all (fun e => decide (e ∈ given) && !decide (e ∈ taken)) = true, fun H2 hH2 => ⟨es.length, by omega, k1.trans (Kt.tabbed T1 hPt hH2), rfl⟩, fun j m H' hw => ?_⟩
    obtain ⟨em, kt, hal⟩ := hw
    have hta' := kt.tup hT hta
    by_cases hj : j < es.length
    · refine .inr ⟨⟨_, _, SqT.of hta', List.getElem?_eq_getElem (by rw [List.length_map]; exact hj)⟩, fun H3 => Kt Ps H H3 ∧ (es.take (j + 1)).all (fun e => decide (e ∈ given) && !decide (e ∈ taken)) = true, fun H3 n3 => ⟨m - 1, by omega, by omega, n3.1, n3.2⟩, fun x H3 hy => ?_⟩
      obtain ⟨rfl, fy⟩ := hy
      have ex := fy _ (SqT.of hta')
      rw [List.getElem?_map, List.getElem?_eq_getElem hj] at ex
      cases ex
      have ee := List.getElem?_eq_getElem hj
      refine ⟨rfl, .int es[j], rfl, .ref gv, rfl, gv, _, rfl, DGet.k (k := Sum.inl es[j]) (kt.dct hT hgiv), ?_⟩
      rw [kvG_some]
      cases hb : decide (es[j] ∈ given) with
      | false =>
        have no : (es.all fun e => decide (e ∈ given) && !decide (e ∈ taken)) = false := all_not ee (by rw [hb]; rfl)
        rw [no] at q
        exact ⟨_, rfl, _, rfl, q _ kt⟩
      | true =>
        refine ⟨_, rfl, .int es[j], rfl, .ref tv, rfl, tv, _, rfl, DGet.k (k := Sum.inl es[j]) (kt.dct hT htk), _, rfl, ?_⟩
        rw [kvG_some]
        cases hc : decide (es[j] ∈ taken) with
        | false => exact ⟨kt, (take_all ee hal).trans (by rw [hb, hc]; rfl)⟩
        | true =>
          have no : (es.all fun e => decide (e ∈ given) && !decide (e ∈ taken)) = false := all_not ee (by rw [hc, Bool.not_true, Bool.and_false])
          rw [no] at q
          exact q _ kt
    · refine .inl ⟨⟨_, SqT.of hta', by rw [List.length_map]; omega⟩, ?_⟩
      rw [List.take_of_length_le (by omega)] at hal
      rw [hal] at q
      exact q _ kt
end
def spKnot (Ps : List Addr) : Nat → Sp
  | 0 => fun _ _ _ _ => False
  | d + 1 => fun vs H Q _ => ∃ (wv : V) (lv gv : Addr) (v : V) (n : Int) (ts : List Tie) (lim given : List Int), vs = [wv, .ref lv, .ref gv, v] ∧ KnotAt H wv lv gv n ts lim given ∧ ts.length + d ≤ 120 ∧ PapV d H v ∧ Tabs Ps H ∧ ∀ H', Kt Ps H H' → Q (optV (shownS (d + 1) H n ts lim given v)) H'
def spSplitShows (Ps : List Addr) (d : Nat) : Sp := fun vs H Q _ => ∃ (wv : V) (lv gv rv : Addr) (n : Int) (ts : List Tie) (lim given : List Int) (rows : List V), vs = [wv, .ref lv, .ref gv, .ref rv] ∧ KnotAt H wv lv gv n ts lim given ∧ ts.length + d ≤ 120 ∧ H rv = some (.tup rows) ∧ (∀ r ∈ rows, PapV d H r) ∧ Tabs Ps H ∧ ∀ H', Kt Ps H H' → Q (optV (splitS H lim.length given (fun es p => shownS d H n ts lim es p) rows)) H'
theorem stepT_some {H : Hp} {m : Nat} {given : List Int} {S : List Int → V → Option Int} {tk : List Int} {tot : Int} {r : V} : stepT H m given S (some (tk, tot)) r = match rowT H m r with | none => none | some (es, p) => if es.all (fun e => decide (e ∈ given) && !decide (e ∈ tk)) then (match S es p with | none => none | some k => some (tk ++ es, tot + k)) else none := rfl
theorem splitS_off {H : Hp} {m : Nat} {given : List Int} {S : List Int → V → Option Int} {rows : List V} {i : Nat} {x : Option (List Int × Int)} {r : V} (hf : (rows.take i).foldl (stepT H m given S) (some ([], 0)) = x) (e : rows[i]? = some r) (h : stepT H m given S x r = none) : splitS H m given S rows = none := by
  unfold splitS
  have ef := fold_at (f := stepT H m given S) (b := some ([], 0)) e
  rw [hf, h] at ef
  rw [fold_off (stepT_none H m given S) ef]
  rfl
theorem splitOk_is {H : Hp} {m : Nat} {given taken : List Int} {r : V} (h : splitOk H m given taken r = true) : ∃ (va ta : Addr) (p : V) (es : List Int), r = .ref va ∧ H va = some (.tup [.ref ta, p]) ∧ H ta = some (.tup (es.map V.int)) ∧ rowT H m r = some (es, p) ∧ (∀ e ∈ es, 0 ≤ e ∧ e < (m : Int)) ∧ es.Nodup ∧ (es.all fun e => decide (e ∈ given) && !decide (e ∈ taken)) = true := by
  unfold splitOk at h
  cases e : rowT H m r with
  | none => rw [e] at h; cases h
  | some x =>
    obtain ⟨es, p⟩ := x
    rw [e] at h
    obtain ⟨t, h1, h2, h3⟩ := rowT_is e
    obtain ⟨va, rfl, hva⟩ := parts_at h1
    obtain ⟨ta, es', rfl, hta, hes, hpw, et⟩ := rise_is h2
    rw [et] at h3
    subst h3
    exact ⟨va, ta, p, es, rfl, hva, hta, rfl, hes, hpw.imp fun {a b} z => by omega, h⟩
section
variable {P : Program} {w : World} {K : PySem.W.Frag} {mg : Str → Option Value} {base : Heap}
set_option maxHeartbeats 4000000 in
theorem ok_split_shows {f : Addr} {fd : FuncData} {Ps : List Addr} (d : Nat) (F : Fun K "split_shows" "split_shows" s_split_shows f fd) (D_is_split_row : Df P w K mg base 6 "is_split_row" ["limits", "given", "taken", "thing"] (spSplitRow Ps)) (D_knot_shows : Df P w K mg base (20 + 2 * d) "knot_shows" ["web", "limits", "given", "thing"] (spKnot Ps d)) : FnOk P w K mg base CX0 (20 + 2 * d + 1) f fd ["web", "limits", "given", "rows"] (spSplitShows Ps d) := by
  obtain ⟨f_is_split_row, fd_is_split_row, G_is_split_row, g_is_split_row, k_is_split_row, b_is_split_row⟩ := D_is_split_row
  obtain ⟨f_knot_shows, fd_knot_shows, G_knot_shows, g_knot_shows, k_knot_shows, b_knot_shows⟩ := D_knot_shows
  refine F.ok sc_split_shows (fun vs H Q E h => ?_) (fun cdv A outer s H vs Q E hr h => ?_)
  · obtain ⟨wv, lv, gv, rv, n, ts, lim, given, rows, rfl, _⟩ := h
    rfl
  · obtain ⟨wv, lv, gv, rv, n, ts, lim, given, rows, rfl, hK, l120, hrv, hP, hT, q⟩ := h
    refine ⟨_, (pss_cons (ps_set (i := 4) sc_split_shows.nd rfl (.inl rfl) pe_int)
      (pss_cons (ps_set (i := 5) sc_split_shows.nd rfl (.inl rfl) pe_dnewK)
      (pss_cons (ps_for PassesOwn.never rfl (pi_tup (pv 3)) (pg_name (i := 6) sc_split_shows.nd rfl (.inl rfl))
        (pss_cons (ps_if (pt_not (pt_val (pe_call G_is_split_row (hr.mono (by omega)) (by rfl) g_is_split_row k_is_split_row b_is_split_row .nil pass0 (pa_cons (pv 1) (pa_cons (pv 2) (pa_cons (pv 5) (pa_cons (pv 6) pa_nil)))))))
          (pss_one (ps_ret pe_non))
          pss_nil)
        (pss_cons (ps_setDc (i := 7) (own := [("tie", 8)]) (g := gName 8) (tt := tYes) rfl sc_split_shows.nd rfl rfl (sw_trueD rfl rfl rfl (by decide +kernel)) (pi_tup (pe_ix ix_tup (pv 6) pe_int (fun _ _ => rfl))) (blkOk_by (N := N_split_shows) (sc := defScope s_split_shows) (own := [("tie", 8)]) (by decide +kernel)) (fun _ _ _ _ _ => (pg_name (i := 8) sc_split_shows.nd rfl (.inl rfl))) (fun _ _ _ _ _ => pts_nil) (fun _ _ _ _ _ => (pv 8)) (fun _ _ _ _ _ => pe_bl))
        (pss_cons (ps_expr (pe_bm PySem.F.plainAttrs_dict PySem.F.slot_dict_update PySem.F.type_dict_update mt_update (pv 5) (pa_cons (pv 7) pa_nil)))
        (pss_cons (ps_set (i := 9) sc_split_shows.nd rfl (.inl rfl) (pe_call G_knot_shows (hr.mono (by omega)) (by rfl) g_knot_shows k_knot_shows b_knot_shows .nil pass0 (pa_cons (pv 0) (pa_cons (pv 1) (pa_cons (pv 7) (pa_cons (pe_ix ix_tup (pv 6) pe_int (fun _ _ => rfl)) pa_nil))))))
        (pss_cons (ps_if (pt_cmpR op_isN (pv 9) pe_non (nomark _))
          (pss_one (ps_ret pe_non))
          pss_nil)
        (pss_one (ps_aug (i := 4) sc_split_shows.nd rfl (.inl rfl) (pv 9) ip_add))))))))
      (pss_one (ps_ret (pv 4)))))), ?_⟩
    have fts := hK.ok.few
    refine fun D nD => ?_
    have sD := same_new (o := .dK []) nD
    have kD := Kt.same hT sD
    have hD1 : (upd H D (.dK [])) D = some (.dK (kvG [])) := upd_same
    generalize upd H D (.dK []) = H1 at sD kD hD1
    have hrv1 := kD.tup hT hrv
    refine ⟨.ref rv, rfl, rv, rfl, ⟨_, SqT.of hrv1⟩, ?_⟩
    refine for_tup (xs := rows) (fun i σ' H' => ∃ (y6 y7 y8 y9 : Option V) (tk : List Int) (tot : Int), σ' = [some wv, some (.ref lv), some (.ref gv), some (.ref rv), some (.int tot), some (.ref D), y6, y7, y8, y9] ∧ (rows.take i).foldl (stepT H lim.length given fun es p => shownS d H n ts lim es p) (some ([], 0)) = some (tk, tot) ∧ H' D = some (.dK (kvG tk)) ∧ tk.Nodup ∧ (∀ e ∈ tk, e ∈ given) ∧ Kt Ps H H') ⟨none, none, none, none, [], 0, rfl, rfl, hD1, List.nodup_nil, fun e he => (by cases he), kD⟩ (fun i σ' H' _ h => by
      obtain ⟨_, _, _, _, _, _, _, _, _, _, _, k⟩ := h
      exact SqT.of (k.tup hT hrv)) ?_ ?_
    · clear hD1 kD sD hrv1
      rintro i r σ' H2 er ⟨y6, y7, y8, y9, tk, tot, rfl, ef, hD, nk, mk, k2⟩
      have T2 : Tabs Ps H2 := k2.tab
      have pr := hP r (List.mem_of_getElem? er)
      refine ⟨.ref lv, rfl, .ref gv, rfl, .ref D, rfl, r, rfl, lv, gv, D, r, lim, given, tk, d, rfl, k2.lst hT hK.lm, k2.dct hT hK.giv, hD, pr.stay (.kt k2 hT), T2, fun H3 k3 => ⟨_, rfl, ?_⟩⟩
      have eo : splitOk H2 lim.length given tk r = splitOk H lim.length given tk r := by
        unfold splitOk
        rw [rowT_stay pr (.kt k2 hT)]
      rw [eo]
      have k03 := k2.trans k3
      have hD3 := k3.dct T2 hD
      cases ho : splitOk H lim.length given tk r with
      | false =>
        have := q _ k03
        rw [splitS_off ef er (by
          rw [stepT_some]
          unfold splitOk at ho
          cases e : rowT H lim.length r with
          | none => rfl
          | some x =>
            rw [e] at ho
            show (if x.1.all (fun e => decide (e ∈ given) && !decide (e ∈ tk)) then _ else none) = none
            rw [show (x.1.all fun e => decide (e ∈ given) && !decide (e ∈ tk)) = false from ho]
            rfl)] at this
        exact this
      | true =>
      obtain ⟨va, ta, p, es, rfl, hva, hta, eT, hes, nes, hg⟩ := splitOk_is ho
      have hva3 := k03.tup hT hva
      have hta3 := k03.tup hT hta
      have les : es.length ≤ lim.length := pigeon49 es nes hes
      have few := hK.few
      -- the row's own ties
      refine ⟨.ref va, rfl, va, _, 0, .ref ta, rfl, rfl, SqT.of hva3, rfl, ta, rfl, ⟨_, SqT.of hta3⟩, fun O nO => ?_⟩
      have ndisj : ∀ e ∈ es, e ∈ given ∧ e ∉ tk := fun e he => by
        have := List.all_eq_true.mp hg e he
        rw [Bool.and_eq_true, decide_eq_true_iff, Bool.not_eq_true', decide_eq_false_iff_not] at this
        exact this
      have OD : D ≠ O := ne_of_none hD3 nO
      have T3 : Tabs Ps H3 := k3.tab
      refine dc_tup (K := K) (xs := es.map V.int) (fun j H' => H' O = some (.dK (kvG (es.take j))) ∧ Same H3 H') ⟨upd_same, same_new nO⟩ (fun j H' _ h => SqT.of (h.2 _ _ hta3)) ?_ ?_
      · rintro j x H4 ex ⟨hO, s4⟩
        rw [List.getElem?_map] at ex
        obtain ⟨e, ee, rfl⟩ := Option.map_eq_some_iff.mp ex
        have jl := (List.getElem?_eq_some_iff.mp ee).1
        have enj : e ∉ es.take j := fun z => by
          obtain ⟨i', hi'⟩ := List.getElem?_of_mem z
          have il := (List.getElem?_eq_some_iff.mp hi').1
          rw [List.length_take] at il
          rw [List.getElem?_take_of_lt (by omega)] at hi'
          have h1 := (List.getElem?_eq_some_iff.mp hi')
          have h2 := (List.getElem?_eq_some_iff.mp ee)
          exact List.pairwise_iff_getElem.mp nes i' j h1.1 jl (by omega) (h1.2.trans h2.2.symm)
        refine ⟨rfl, .int e, rfl, kvG (es.take j), Sum.inl e, rfl, hO, ?_, ?_, Same.mut s4 nO⟩
        · unfold kvG
          rw [List.length_map, List.length_take]
          exact small1000 (by omega)
        · rw [upd_same, kvG_put enj, List.take_add_one, ee]
          rfl
      rintro H4 ⟨hO, s4⟩
      rw [List.length_map, List.take_length] at hO
      have k04 := k03.trans (Kt.same T3 s4)
      have hD4 := s4 _ _ hD3
      have ltk : tk.length ≤ lim.length := pigeon49 tk nk fun e he => hK.inn e (mk e he)
      refine ⟨.ref D, rfl, .inr (.inr (.inl ⟨rfl, .inl ⟨_, hD4⟩⟩)), .ref O, rfl, D, O, kvG tk, kvG es, rfl, rfl, hD4, hO, OD, ?_, ?_⟩
      · unfold kvG
        rw [List.length_map, List.length_map]
        exact Nat.le_of_lt (small1000 (by omega))
      rw [kvG_merge nes fun e he => (ndisj e he).2]
      have hD5 : (upd H4 D (.dK (kvG (tk ++ es)))) D = some (.dK (kvG (tk ++ es))) := upd_same
      have hO5 : (upd H4 D (.dK (kvG (tk ++ es)))) O = some (.dK (kvG es)) := by rw [upd_ne OD.symm]; exact hO
      have k05 : Kt Ps H (upd H4 D (.dK (kvG (tk ++ es)))) := k04.mutN hT nD
      generalize upd H4 D (.dK (kvG (tk ++ es))) = H5 at hD5 hO5 k05
      have T5 : Tabs Ps H5 := k05.tab
      clear hD4 hO k04 s4 hD3 k3 k03 hD k2 hva3 hta3 nO eo
      cases d with
      | zero =>
        have e0 : parts H (.ref va) = none := (show Kn H (.ref va) ∧ parts H (.ref va) = none from pr).2
        rw [parts_of' hva] at e0
        cases e0
      | succ d =>
      have pp : PapV d H p := rowT_pap1 pr eT
      refine ⟨wv, rfl, .ref lv, rfl, .ref O, rfl, .ref va, rfl, va, _, 1, p, rfl, rfl, SqT.of (k05.tup hT hva), rfl, wv, lv, O, p, n, ts, lim, es, rfl, ⟨hK.web.tk (k05.tk hT), hK.ok, k05.lst hT hK.lm, few, hO5, hes, nes⟩, by omega, pp.stay (.kt k05 hT), T5, fun H6 k6 => ?_⟩
      have k06 := k05.trans k6
      have e6 : shownS (d + 1) H5 n ts lim es p = shownS (d + 1) H n ts lim es p := shown_stay pp (.kt k05 hT) ..
      rw [e6]
      have es0 : stepT H lim.length given (fun es p => shownS (d + 1) H n ts lim es p) (some (tk, tot)) (.ref va) = match shownS (d + 1) H n ts lim es p with | none => none | some k => some (tk ++ es, tot + k) := by
        rw [stepT_some, eT]
        show (if es.all (fun e => decide (e ∈ given) && !decide (e ∈ tk)) then _ else none) = _
        rw [hg]
        rfl
      cases eS : shownS (d + 1) H n ts lim es p with
      | none =>
        have := q _ k06
        rw [splitS_off ef er (by rw [es0, eS])] at this
        refine ⟨.non, rfl, rfl, _, rfl, ?_⟩
        exact this
      | some k =>
        refine ⟨.int k, rfl, rfl, _, rfl, ?_⟩
        refine ⟨.int tot, rfl, .int k, rfl, tot, k, rfl, rfl, ?_⟩
        exact ⟨_, _, _, _, tk ++ es, tot + k, rfl, by rw [fold_at er, ef, es0, eS], k6.dct T5 hD5, List.nodup_append.mpr ⟨nk, nes, fun a ha b hb e => (ndisj b hb).2 (e ▸ ha)⟩, fun e he => (List.mem_append.mp he).elim (mk e) fun z => (ndisj e z).1, k06⟩
    · rintro σ' H2 ⟨y6, y7, y8, y9, tk, tot, rfl, ef, hD, nk, mk, k2⟩
      rw [List.take_length] at ef
      have eS : splitS H lim.length given (fun es p => shownS d H n ts lim es p) rows = some tot := by
        unfold splitS
        rw [ef]
        rfl
      rw [eS] at q
      exact ⟨.int tot, rfl, q _ k2⟩
end
/-! ### papers: cases, knots, what a paper shows -/
def unlB (n : Int) (x y : V) : Bool := wbelow n x && (wbelow n y && !decide (x = y))
def spUnlikePl : Sp := fun vs H Q _ => ∃ (n : Int) (x y : V), vs = [.int n, x, y] ∧ Kn H x ∧ Kn H y ∧ Q (.bl (unlB n x y)) H
theorem wbelow_is {n : Int} {x : V} (h : wbelow n x = true) : ∃ i, x = .int i ∧ 0 ≤ i ∧ i < n := by
  cases x with
  | int i =>
    have h : (decide (0 ≤ i) && decide (i < n)) = true := h
    rw [Bool.and_eq_true, decide_eq_true_iff, decide_eq_true_iff] at h
    exact ⟨i, rfl, h⟩
  | _ => exact absurd (show false = true from h) Bool.false_ne_true
theorem decV (a b : Int) : decide (V.int a = V.int b) = decide (a = b) := by
  rw [decide_eq_decide]
  exact ⟨fun h => V.int.inj h, fun h => by rw [h]⟩
theorem caseS_eq {n : Int} {S : Tie → V → Option Int} {p q a b : V} : caseS n S p q a b = match p, q with
  | .int x, .int y => if unlB n (.int x) (.int y) then minO (S ⟨x, y, false⟩ a) (S ⟨x, y, true⟩ b) else none
  | _, _ => none := by
  unfold caseS unlB
  cases p <;> cases q <;> try rfl
  simp only [decV]
theorem caseS_off {n : Int} {S : Tie → V → Option Int} {p q a b : V} (h : unlB n p q = false) : caseS n S p q a b = none := by
  rw [caseS_eq]
  cases p <;> cases q <;> try rfl
  show (if unlB n _ _ = true then _ else none) = none
  rw [h]
  rfl
theorem caseS_on {n : Int} {S : Tie → V → Option Int} {x y : Int} {a b : V} (h : unlB n (.int x) (.int y) = true) : caseS n S (.int x) (.int y) a b = minO (S ⟨x, y, false⟩ a) (S ⟨x, y, true⟩ b) := by
  rw [caseS_eq]
  show (if unlB n _ _ = true then _ else none) = _
  rw [h]
  rfl
def spCaseShows (Ps : List Addr) (d : Nat) : Sp := fun vs H Q _ => ∃ (wv : V) (lv gv cv : Addr) (n : Int) (ts : List Tie) (lim given : List Int) (w p q a b : V) (d' : Nat), d = d' + 1 ∧ vs = [wv, .ref lv, .ref gv, .ref cv] ∧ KnotAt H wv lv gv n ts lim given ∧ ts.length + d ≤ 120 ∧ H cv = some (.tup [w, p, q, a, b]) ∧ Kn H p ∧ Kn H q ∧ PapV d' H a ∧ PapV d' H b ∧ Tabs Ps H ∧ ∀ H', Kt Ps H H' → Q (optV (caseS n (fun t x => shownS d H n (ts ++ [t]) lim given x) p q a b)) H'
section
variable {P : Program} {w : World} {K : PySem.W.Frag} {mg : Str → Option Value} {base : Heap}
set_option maxHeartbeats 2000000 in
theorem ok_are_unlike_places {f : Addr} {fd : FuncData} (F : Fun K "are_unlike_places" "are_unlike_places" s_are_unlike_places f fd) (D_is_whole_below : Df P w K mg base 2 "is_whole_below" ["limit", "thing"] spBelow) : FnOk P w K mg base CX0 3 f fd ["many", "one", "other"] spUnlikePl := by
  obtain ⟨f_is_whole_below, fd_is_whole_below, G_is_whole_below, g_is_whole_below, k_is_whole_below, b_is_whole_below⟩ := D_is_whole_below
  refine F.ok sc_are_unlike_places (fun vs H Q E h => ?_) (fun cdv A outer s H vs Q E hr h => ?_)
  · obtain ⟨n, x, y, rfl, _⟩ := h
    rfl
  · obtain ⟨n, x, y, rfl, kx, ky, q⟩ := h
    refine ⟨_, (pss_one (ps_ret (pe_and (pe_call G_is_whole_below (hr.mono (by decide)) (by rfl) g_is_whole_below k_is_whole_below b_is_whole_below .nil pass0 (pa_cons (pv 0) (pa_cons (pv 1) pa_nil))) (pe_and (pe_call G_is_whole_below (hr.mono (by decide)) (by rfl) g_is_whole_below k_is_whole_below b_is_whole_below .nil pass0 (pa_cons (pv 0) (pa_cons (pv 2) pa_nil))) (pe_one (pe_cmpR op_ne (pv 1) (pv 2) (nomark _))))))), ?_⟩
    refine ⟨.int n, rfl, x, rfl, n, x, rfl, kx, _, rfl, ?_⟩
    unfold unlB at q
    cases h1 : wbelow n x with
    | false => rw [h1] at q; exact q
    | true =>
    rw [h1, Bool.true_and] at q
    refine ⟨.int n, rfl, y, rfl, n, y, rfl, ky, _, rfl, ?_⟩
    cases h2 : wbelow n y with
    | false => rw [h2] at q; exact q
    | true =>
    rw [h2, Bool.true_and] at q
    obtain ⟨i, rfl, _⟩ := wbelow_is h1
    obtain ⟨j, rfl, _⟩ := wbelow_is h2
    exact ⟨.int i, rfl, .int j, rfl, rfl, q⟩
set_option maxHeartbeats 4000000 in
theorem ok_case_shows {f : Addr} {fd : FuncData} {Ps : List Addr} (d : Nat) (F : Fun K "case_shows" "case_shows" s_case_shows f fd) (m_min : mg "min" = none) (D_are_unlike_places : Df P w K mg base 3 "are_unlike_places" ["many", "one", "other"] spUnlikePl) (D_knot_shows : Df P w K mg base (20 + 2 * d) "knot_shows" ["web", "limits", "given", "thing"] (spKnot Ps d)) : FnOk P w K mg base CX0 (20 + 2 * d + 1) f fd ["web", "limits", "given", "thing"] (spCaseShows Ps d) := by
  obtain ⟨f_are_unlike_places, fd_are_unlike_places, G_are_unlike_places, g_are_unlike_places, k_are_unlike_places, b_are_unlike_places⟩ := D_are_unlike_places
  obtain ⟨f_knot_shows, fd_knot_shows, G_knot_shows, g_knot_shows, k_knot_shows, b_knot_shows⟩ := D_knot_shows
  refine F.ok sc_case_shows (fun vs H Q E h => ?_) (fun cdv A outer s H vs Q E hr h => ?_)
  · obtain ⟨wv, lv, gv, cv, n, ts, lim, given, w0, p, q0, a, b, d1, ed, rfl, _⟩ := h
    rfl
  · obtain ⟨wv, lv, gv, cv, n, ts, lim, given, w0, p, q0, a, b, d1, ed, rfl, hK, l120, hcv, kp, kq, pa, pb, hT, q⟩ := h
    refine ⟨_, (pss_cons (ps_asg (pv 3) (pg_tup rfl (pgs_cons (pg_name (i := 4) sc_case_shows.nd rfl (.inl rfl)) (pgs_cons (pg_name (i := 5) sc_case_shows.nd rfl (.inl rfl)) (pgs_cons (pg_name (i := 6) sc_case_shows.nd rfl (.inl rfl)) (pgs_cons (pg_name (i := 7) sc_case_shows.nd rfl (.inl rfl)) (pgs_cons (pg_name (i := 8) sc_case_shows.nd rfl (.inl rfl)) pgs_nil)))))))
      (pss_cons (ps_if (pt_not (pt_val (pe_call G_are_unlike_places (hr.mono (by omega)) (by rfl) g_are_unlike_places k_are_unlike_places b_are_unlike_places .nil pass0 (pa_cons (pe_ix ix_tup (pv 0) pe_int (fun _ _ => rfl)) (pa_cons (pv 5) (pa_cons (pv 6) pa_nil))))))
        (pss_one (ps_ret pe_non))
        pss_nil)
      (pss_cons (ps_set (i := 9) sc_case_shows.nd rfl (.inl rfl) (pe_lst pa_nil))
      (pss_cons (ps_for PassesOwn.never rfl (pi_tup (pe_tup (pa_cons (pe_tup (pa_cons pe_str (pa_cons (pv 7) pa_nil))) (pa_cons (pe_tup (pa_cons pe_str (pa_cons (pv 8) pa_nil))) pa_nil)))) (pg_tup rfl (pgs_cons (pg_name (i := 10) sc_case_shows.nd rfl (.inl rfl)) (pgs_cons (pg_name (i := 11) sc_case_shows.nd rfl (.inl rfl)) pgs_nil)))
        (pss_cons (ps_set (i := 12) sc_case_shows.nd rfl (.inl rfl) (pe_tup (pa_cons (pe_ix ix_tup (pv 0) pe_int (fun _ _ => rfl)) (pa_cons (pe_op op_catU (pe_ix ix_tup (pv 0) pe_int (fun _ _ => rfl)) (pe_tup (pa_cons (pe_tup (pa_cons (pv 5) (pa_cons (pv 6) (pa_cons (pv 10) pa_nil)))) pa_nil))) pa_nil))))
        (pss_one (ps_expr (pe_bm PySem.F.plainAttrs_list PySem.F.slot_list_append PySem.F.type_list_append mt_append (pv 9) (pa_cons (pe_call G_knot_shows (hr.mono (by omega)) (by rfl) g_knot_shows k_knot_shows b_knot_shows .nil pass0 (pa_cons (pv 12) (pa_cons (pv 1) (pa_cons (pv 2) (pa_cons (pv 11) pa_nil))))) pa_nil))))))
      (pss_one (ps_ret (pe_ifExp (pt_cmpR op_in_seq pe_non (pv 9) rfl) pe_non (pe_callB (cr_min rfl) (by rfl) m_min (by decide +kernel) (pa_cons (pv 9) pa_nil))))))))), ?_⟩
    subst ed
    obtain ⟨wa, wb, us, rfl, hwa, hwb, hpw⟩ := id hK.web
    have fts := hK.ok.few
    refine ⟨.ref cv, rfl, cv, _, rfl, SqT.of hcv, rfl, _, _, rfl, _, _, rfl, _, _, rfl, _, _, rfl, _, _, rfl, rfl, ?_⟩
    refine ⟨.ref wa, rfl, wa, _, 0, .int n, rfl, rfl, SqT.of hwa, rfl, p, rfl, q0, rfl, n, p, q0, rfl, kp, kq, _, rfl, ?_⟩
    cases hu : unlB n p q0 with
    | false =>
      have := q _ (Kt.refl hT)
      rw [caseS_off hu] at this
      exact this
    | true =>
    have hu' := hu
    unfold unlB at hu'
    rw [Bool.and_eq_true, Bool.and_eq_true] at hu'
    obtain ⟨x, rfl, x0, x1⟩ := wbelow_is hu'.1
    obtain ⟨y, rfl, y0, y1⟩ := wbelow_is hu'.2.1
    have xy : x ≠ y := fun z => by
      have := hu'.2.2
      rw [z, decide_eq_true rfl] at this
      cases this
    rw [caseS_on hu] at q
    refine ⟨Nat.zero_le _, fun L nL => ?_⟩
    have sL := same_new (o := .lst []) nL
    have hL1 : (upd H L (.lst [])) L = some (.lst []) := upd_same
    have kL := Kt.same hT sL
    generalize upd H L (.lst []) = H1 at sL hL1 kL
    refine ⟨a, rfl, by show 2 ≤ sizeLine; decide, fun t1 n1 => ?_⟩
    have s1 := same_new (o := .tup [.str "friend", a]) n1
    have h1 := upd_same (H := H1) (a := t1) (o := .tup [.str "friend", a])
    generalize upd H1 t1 (.tup [.str "friend", a]) = H2 at s1 h1
    refine ⟨b, rfl, by show 2 ≤ sizeLine; decide, fun t2 n2 => ?_⟩
    have s2 := same_new (o := .tup [.str "foe", b]) n2
    have h2 := upd_same (H := H2) (a := t2) (o := .tup [.str "foe", b])
    have h12 := s2 _ _ h1
    generalize upd H2 t2 (.tup [.str "foe", b]) = H3 at s2 h2 h12
    refine ⟨by show 2 ≤ sizeLine; decide, fun t3 n3 => ?_⟩
    have s3 := same_new (o := .tup [.ref t1, .ref t2]) n3
    have h3 := upd_same (H := H3) (a := t3) (o := .tup [.ref t1, .ref t2])
    have h13 := s3 _ _ h12
    have h23 := s3 _ _ h2
    generalize upd H3 t3 (.tup [.ref t1, .ref t2]) = H4 at s3 h3 h13 h23
    have s14 := (s1.trans s2).trans s3
    have T1 : Tabs Ps H1 := kL.tab
    have k4 := kL.trans (Kt.same T1 s14)
    have hL4 := s14 _ _ hL1
    have T4 : Tabs Ps H4 := k4.tab
    clear n1 n2 n3 s1 s2 s3 h1 h2 h12 s14
    have each : ∀ (i : Nat) (v : V), [V.ref t1, V.ref t2][i]? = some v → ∃ (t : Addr) (kd : Bool) (u : V), v = .ref t ∧ H4 t = some (.tup [.str (kindS kd), u]) ∧ PapV d1 H u ∧ [optV (shownS (d1 + 1) H n (ts ++ [⟨x, y, false⟩]) lim given a), optV (shownS (d1 + 1) H n (ts ++ [⟨x, y, true⟩]) lim given b)][i]? = some (optV (shownS (d1 + 1) H n (ts ++ [⟨x, y, kd⟩]) lim given u)) := fun i v e => by
      match i, e with
      | 0, e => cases e; exact ⟨t1, false, a, rfl, h13, pa, rfl⟩
      | 1, e => cases e; exact ⟨t2, true, b, rfl, h23, pb, rfl⟩
      | i + 2, e => simp at e
    generalize eR : [optV (shownS (d1 + 1) H n (ts ++ [⟨x, y, false⟩]) lim given a), optV (shownS (d1 + 1) H n (ts ++ [⟨x, y, true⟩]) lim given b)] = R at each
    have lR : R.length = 2 := by rw [← eR]; rfl
    refine ⟨t3, rfl, ⟨_, SqT.of h3⟩, ?_⟩
    refine for_tup (xs := [V.ref t1, V.ref t2]) (fun i σ' H' => ∃ y10 y11 y12 : Option V, σ' = [some (.ref wa), some (.ref lv), some (.ref gv), some (.ref cv), some w0, some (.int x), some (.int y), some a, some b, some (.ref L), y10, y11, y12] ∧ H' L = some (.lst (R.take i)) ∧ Kt Ps H H' ∧ Tk H4 H') ⟨none, none, none, rfl, hL4, k4, ⟨fun _ _ e => e, fun _ _ _ e => e⟩⟩ (fun i σ' H' _ h => by
      obtain ⟨_, _, _, _, _, _, tk⟩ := h
      exact SqT.of (tk _ _ h3)) ?_ ?_
    · rintro i v σ' H5 ev ⟨y10, y11, y12, rfl, hL5, k5, tk5⟩
      obtain ⟨t, kd, u, rfl, ht, pu, eu⟩ := each i v ev
      have il : i < 2 := (List.getElem?_eq_some_iff.mp ev).1
      have T5 : Tabs Ps H5 := k5.tab
      refine ⟨t, _, rfl, SqT.of (tk5 _ _ ht), rfl, _, _, rfl, _, _, rfl, rfl, ?_⟩
      refine ⟨.ref wa, rfl, wa, _, 0, .int n, rfl, rfl, SqT.of (k5.tup hT hwa), rfl, .ref wa, rfl, wa, _, 1, .ref wb, rfl, rfl, SqT.of (k5.tup hT hwa), rfl, .int x, rfl, .int y, rfl, .str (kindS kd), rfl, by show 3 ≤ sizeLine; decide, fun c1 nc1 => ⟨by show 1 ≤ sizeLine; decide, fun c2 nc2 => ?_⟩⟩
      have s6 := same_new (o := .tup [.int x, .int y, .str (kindS kd)]) nc1
      have hc1 := upd_same (H := H5) (a := c1) (o := .tup [.int x, .int y, .str (kindS kd)])
      generalize upd H5 c1 (.tup [.int x, .int y, .str (kindS kd)]) = H6 at s6 hc1 nc2
      have s7 := same_new (o := .tup [.ref c1]) nc2
      have hc2 := upd_same (H := H6) (a := c2) (o := .tup [.ref c1])
      have hc17 := s7 _ _ hc1
      generalize upd H6 c2 (.tup [.ref c1]) = H7 at s7 hc2 hc17
      have s57 := s6.trans s7
      have hwb7 := s57 _ _ (k5.tup hT hwb)
      have lus : us.length = ts.length := Paired.length hpw
      refine ⟨wb, c2, us, [.ref c1], rfl, rfl, hwb7, hc2, by rw [List.length_singleton]; omega, fun r H8 s8 hr8 => ⟨by show 2 ≤ sizeLine; decide, fun w2 nw2 => ?_⟩⟩
      have s9 := same_new (o := .tup [.int n, .ref r]) nw2
      have hw2 := upd_same (H := H8) (a := w2) (o := .tup [.int n, .ref r])
      have hr9 := s9 _ _ hr8
      generalize upd H8 w2 (.tup [.int n, .ref r]) = H9 at s9 hw2 hr9
      have s79 := s8.trans s9
      have s59 := s57.trans s79
      have k9 := k5.trans (Kt.same T5 s59)
      have T9 : Tabs Ps H9 := k9.tab
      have hL9 := s59 _ _ hL5
      have hc19 := s79 _ _ hc17
      have tk9 : Tk H4 H9 := tk5.trans (Same.tk s59)
      have ok' : WebOk n (ts ++ [⟨x, y, kd⟩]) := ⟨hK.ok.lo, hK.ok.hi, by rw [List.length_append]; show ts.length + 1 ≤ 120; omega, fun t ht => by
        rcases List.mem_append.mp ht with z | z
        · exact hK.ok.ok t z
        · rw [List.mem_singleton.mp z]
          exact ⟨x0, x1, y0, y1, xy⟩⟩
      refine ⟨.ref L, rfl, .inl ⟨rfl, _, SqL.of hL9⟩, .ref w2, rfl, .ref lv, rfl, .ref gv, rfl, u, rfl, .ref w2, lv, gv, u, n, ts ++ [⟨x, y, kd⟩], lim, given, rfl, ⟨⟨w2, r, _, rfl, hw2, hr9, Paired.snoc (ties_tk (k9.tk hT) hpw) ⟨c1, rfl, hc19⟩⟩, ok', k9.lst hT hK.lm, by have := hK.few; rw [List.length_append]; omega, k9.dct hT hK.giv, hK.inn, hK.nd⟩, by rw [List.length_append]; show ts.length + 1 + d1 ≤ 120; omega, pu.stay (.kt k9 hT), T9, fun H10 k10 => ?_⟩
      have e10 : shownS (d1 + 1) H9 n (ts ++ [⟨x, y, kd⟩]) lim given u = shownS (d1 + 1) H n (ts ++ [⟨x, y, kd⟩]) lim given u := shown_stay pu (.kt k9 hT) ..
      rw [e10]
      have hL10 := k10.lst T9 hL9
      have k010 := k9.trans k10
      refine ⟨L, R.take i, _, rfl, rfl, hL10, by rw [List.length_take]; exact small1000 (by omega), ?_⟩
      have tkL := tk_lst (ys := R.take i ++ [optV (shownS (d1 + 1) H n (ts ++ [⟨x, y, kd⟩]) lim given u)]) hL10
      refine ⟨_, _, _, rfl, ?_, k010.mutN hT nL, (tk9.trans (k10.tk T9)).trans tkL⟩
      rw [upd_same, List.take_add_one, eu]
      rfl
    · rintro σ' H5 ⟨y10, y11, y12, rfl, hL5, k5, tk5⟩
      have hL5 : H5 L = some (.lst R) := by rw [hL5]; congr 2; exact List.take_of_length_le (by rw [lR]; exact Nat.le_refl _)
      generalize shownS (d1 + 1) H n (ts ++ [⟨x, y, false⟩]) lim given a = r1 at eR q
      generalize shownS (d1 + 1) H n (ts ++ [⟨x, y, true⟩]) lim given b = r2 at eR q
      subst eR
      refine ⟨.ref L, rfl, L, _, rfl, .inl (SqL.of hL5), rfl, by cases r1 <;> cases r2 <;> rfl, _, rfl, ?_⟩
      cases r1 with
      | none => exact q _ k5
      | some m1 =>
        cases r2 with
        | none => exact q _ k5
        | some m2 =>
          refine ⟨.ref L, rfl, L, [m1, m2], rfl, SqL.of hL5, Nat.zero_lt_succ _, fun m hm hle => ?_⟩
          have e : m = min m1 m2 := by
            have a1 := hle m1 (by simp)
            have a2 := hle m2 (by simp)
            rcases List.mem_cons.mp hm with z | z
            · omega
            · have := List.mem_singleton.mp z
              omega
          rw [e]
          exact q _ k5
end
/-! ### papers: knots -/
theorem five_of {α : Type} : ∀ {xs : List α}, (xs.length : Int) = 5 → ∃ a b c d e, xs = [a, b, c, d, e]
  | [a, b, c, d, e], _ => ⟨a, b, c, d, e, rfl⟩
  | [], h => by cases h
  | [_], h => by cases h
  | [_, _], h => by cases h
  | [_, _, _], h => by cases h
  | [_, _, _, _], h => by cases h
  | _ :: _ :: _ :: _ :: _ :: _ :: xs, h => by
    simp only [List.length_cons] at h
    omega
theorem shown_not {d : Nat} {H : Hp} {n : Int} {ts : List Tie} {lim given : List Int} {v : V} (h2 : lenIs H v 2 = false) (h5 : lenIs H v 5 = false) : shownS d H n ts lim given v = none := by
  cases d with
  | zero => rfl
  | succ d =>
    unfold shownS
    unfold lenIs at h2 h5
    cases e : parts H v with
    | none => rfl
    | some xs =>
      rw [e] at h2 h5
      have h2 : (xs.length : Int) ≠ 2 := of_decide_eq_false h2
      have h5 : (xs.length : Int) ≠ 5 := of_decide_eq_false h5
      match xs, h2, h5 with
      | [], _, _ => rfl
      | [_], _, _ => rfl
      | [_, _], h2, _ => exact (h2 rfl).elim
      | [_, _, _], _, _ => rfl
      | [_, _, _, _], _, _ => rfl
      | [_, _, _, _, _], _, h5 => exact (h5 rfl).elim
      | _ :: _ :: _ :: _ :: _ :: _ :: _, _, _ => rfl
theorem shown_two {d : Nat} {H : Hp} {n : Int} {ts : List Tie} {lim given : List Int} {v w r : V} (h : parts H v = some [w, r]) : shownS (d + 1) H n ts lim given v = match parts H r with
  | none => none
  | some rows => if w = .str "rings" then ringsS H n ts lim given rows else if w = .str "split" then splitS H lim.length given (fun es p => shownS d H n ts lim es p) rows else none := by
  rw [shownS.eq_2, h] <;> rfl
theorem shown_five {d : Nat} {H : Hp} {n : Int} {ts : List Tie} {lim given : List Int} {v w p q a b : V} (h : parts H v = some [w, p, q, a, b]) : shownS (d + 1) H n ts lim given v = if w = .str "case" then caseS n (fun t x => shownS d H n (ts ++ [t]) lim given x) p q a b else none := by
  rw [shownS.eq_2, h]
section
variable {P : Program} {w : World} {K : PySem.W.Frag} {mg : Str → Option Value} {base : Heap}
set_option maxHeartbeats 4000000 in
theorem ok_knot_step {f : Addr} {fd : FuncData} {Ps : List Addr} (d : Nat) (F : Fun K "knot_shows" "knot_shows" s_knot_shows f fd) (M : Free mg) (D_is_tuple_of : Df P w K mg base 1 "is_tuple_of" ["length", "thing"] spTupleOf) (D_case_shows : Df P w K mg base (20 + 2 * d + 1) "case_shows" ["web", "limits", "given", "thing"] (spCaseShows Ps d)) (D_rings_show : Df P w K mg base 11 "rings_show" ["web", "limits", "given", "rows"] (spRingsShow Ps)) (D_split_shows : Df P w K mg base (20 + 2 * d + 1) "split_shows" ["web", "limits", "given", "rows"] (spSplitShows Ps d)) : FnOk P w K mg base CX0 (20 + 2 * d + 1 + 1) f fd ["web", "limits", "given", "thing"] (spKnot Ps (d + 1)) := by
  obtain ⟨f_is_tuple_of, fd_is_tuple_of, G_is_tuple_of, g_is_tuple_of, k_is_tuple_of, b_is_tuple_of⟩ := D_is_tuple_of
  obtain ⟨f_case_shows, fd_case_shows, G_case_shows, g_case_shows, k_case_shows, b_case_shows⟩ := D_case_shows
  obtain ⟨f_rings_show, fd_rings_show, G_rings_show, g_rings_show, k_rings_show, b_rings_show⟩ := D_rings_show
  obtain ⟨f_split_shows, fd_split_shows, G_split_shows, g_split_shows, k_split_shows, b_split_shows⟩ := D_split_shows
  refine F.ok sc_knot_shows (fun vs H Q E h => ?_) (fun cdv A outer s H vs Q E hr h => ?_)
  · obtain ⟨wv, lv, gv, v, n, ts, lim, given, rfl, _⟩ := h
    rfl
  · obtain ⟨wv, lv, gv, v, n, ts, lim, given, rfl, hK, l120, hP, hT, q⟩ := h
    refine ⟨_, (pss_cons (ps_if (PW.pt (pw_and (pt_val (pe_call G_is_tuple_of (hr.mono (by omega)) (by rfl) g_is_tuple_of k_is_tuple_of b_is_tuple_of .nil pass0 (pa_cons pe_int (pa_cons (pv 3) pa_nil)))) (pw_and1 (pt_cmpR (op_eqAS hr.units0) (pe_ix ix_tup (pv 3) pe_int (fun _ _ => rfl)) pe_str (nomark _)))))
        (pss_one (ps_ret (pe_call G_case_shows (hr.mono (by omega)) (by rfl) g_case_shows k_case_shows b_case_shows .nil pass0 (pa_cons (pv 0) (pa_cons (pv 1) (pa_cons (pv 2) (pa_cons (pv 3) pa_nil)))))))
        pss_nil)
      (pss_cons (ps_if (PW.pt (pw_or (pt_not (pt_val (pe_call G_is_tuple_of (hr.mono (by omega)) (by rfl) g_is_tuple_of k_is_tuple_of b_is_tuple_of .nil pass0 (pa_cons pe_int (pa_cons (pv 3) pa_nil))))) (pw_or1 (pt_not (pt_val (pe_callB call_isi (by rfl) M.isinstance (by decide +kernel) (pa_cons (pe_ix ix_tup (pv 3) pe_int (fun _ _ => rfl)) (pa_cons (pe_bltn (v := .ty "tuple") (by rfl) M.tuple (by decide +kernel) rfl) pa_nil))))))))
        (pss_one (ps_ret pe_non))
        pss_nil)
      (pss_cons (ps_asg (pv 3) (pg_tup rfl (pgs_cons (pg_name (i := 4) sc_knot_shows.nd rfl (.inl rfl)) (pgs_cons (pg_name (i := 5) sc_knot_shows.nd rfl (.inl rfl)) pgs_nil))))
      (pss_cons (ps_if (pt_cmpR (op_eqAS hr.units0) (pv 4) pe_str (nomark _))
        (pss_one (ps_ret (pe_call G_rings_show (hr.mono (by omega)) (by rfl) g_rings_show k_rings_show b_rings_show .nil pass0 (pa_cons (pv 0) (pa_cons (pv 1) (pa_cons (pv 2) (pa_cons (pv 5) pa_nil)))))))
        pss_nil)
      (pss_one (ps_ret (pe_ifExp (pt_cmpR (op_eqAS hr.units0) (pv 4) pe_str (nomark _)) (pe_call G_split_shows (hr.mono (by omega)) (by rfl) g_split_shows k_split_shows b_split_shows .nil pass0 (pa_cons (pv 0) (pa_cons (pv 1) (pa_cons (pv 2) (pa_cons (pv 5) pa_nil))))) pe_non))))))), ?_⟩
    have kv := hP.kn
    have hPu := hP.up
    refine ⟨v, rfl, 5, v, rfl, kv, _, rfl, ?_⟩
    cases h5 : lenIs H v 5 with
    | true =>
      obtain ⟨xs, hx, lx⟩ := len_is h5
      obtain ⟨w0, p, q0, a, b, rfl⟩ := five_of lx
      obtain ⟨va, rfl, hva⟩ := parts_at hx
      have h2 : lenIs H (.ref va) 2 = false := by
        unfold lenIs
        rw [hx]
        rfl
      have kw := ((hPu.2 _ hx).1 w0 (by simp)).kn
      rw [shown_five hx] at q
      refine ⟨.ref va, rfl, va, _, 0, w0, rfl, rfl, SqT.of hva, rfl, _, rfl, kw, _, rfl, ?_⟩
      cases hw : decide (w0 = V.str "case") with
      | true =>
        rw [if_pos (of_decide_eq_true hw)] at q
        cases d with
        | zero =>
          have e0 : parts H (.ref va) = none := (show Kn H (.ref va) ∧ parts H (.ref va) = none from hP).2
          rw [hx] at e0
          cases e0
        | succ d1 =>
          have hx1 := (hP.2 _ hx).1
          exact ⟨wv, rfl, .ref lv, rfl, .ref gv, rfl, .ref va, rfl, wv, lv, gv, va, n, ts, lim, given, w0, p, q0, a, b, d1, rfl, rfl, hK, l120, hva, (hx1 p (by simp)).kn, (hx1 q0 (by simp)).kn, hx1 a (by simp), hx1 b (by simp), hT, q⟩
      | false =>
        rw [if_neg (of_decide_eq_false hw)] at q
        refine ⟨.ref va, rfl, 2, .ref va, rfl, kv, _, rfl, ?_⟩
        rw [h2]
        exact q _ (Kt.refl hT)
    | false =>
    refine ⟨v, rfl, 2, v, rfl, kv, _, rfl, ?_⟩
    cases h2 : lenIs H v 2 with
    | false =>
      rw [shown_not h2 h5] at q
      exact q _ (Kt.refl hT)
    | true =>
    obtain ⟨xs, hx, lx⟩ := len_is h2
    obtain ⟨w0, r, rfl⟩ := two_of lx
    obtain ⟨va, rfl, hva⟩ := parts_at hx
    have kw := ((hPu.2 _ hx).1 w0 (by simp)).kn
    have kr := ((hPu.2 _ hx).1 r (by simp)).kn
    rw [shown_two hx] at q
    obtain ⟨t1, i1, j1⟩ := kn_tup (K := K) kr
    refine ⟨.ref va, rfl, va, _, 1, r, rfl, rfl, SqT.of hva, rfl, r, _, t1, _, _, rfl, .ty "tuple", i1, j1, _, rfl, ?_⟩
    cases hi : isT H r with
    | false =>
      rw [parts_none hi] at q
      exact q _ (Kt.refl hT)
    | true =>
    obtain ⟨rv, rows, rfl, hrv⟩ := isT_at hi
    rw [parts_of' hrv] at q
    have q : ∀ H', Kt Ps H H' → Q (optV (if w0 = .str "rings" then ringsS H n ts lim given rows else if w0 = .str "split" then splitS H lim.length given (fun es p => shownS d H n ts lim es p) rows else none)) H' := q
    refine ⟨.ref va, rfl, va, _, rfl, SqT.of hva, rfl, _, _, rfl, _, _, rfl, rfl, ?_⟩
    cases d with
    | zero =>
      have e0 : parts H (.ref va) = none := (show Kn H (.ref va) ∧ parts H (.ref va) = none from hP).2
      rw [hx] at e0
      cases e0
    | succ d1 =>
    have pr := (hP.2 _ hx).1 (.ref rv) (by simp)
    have prows := pr.up.2 _ (parts_of' hrv)
    refine ⟨w0, rfl, _, rfl, kw, _, rfl, ?_⟩
    cases hw : decide (w0 = V.str "rings") with
    | true =>
      rw [if_pos (of_decide_eq_true hw)] at q
      exact ⟨wv, rfl, .ref lv, rfl, .ref gv, rfl, .ref rv, rfl, wv, lv, gv, rv, n, ts, lim, given, rows, d1, rfl, hK, hrv, prows.1, prows.2, hT, q⟩
    | false =>
    rw [if_neg (of_decide_eq_false hw)] at q
    refine ⟨w0, rfl, _, rfl, kw, _, rfl, ?_⟩
    cases hs : decide (w0 = V.str "split") with
    | true =>
      rw [if_pos (of_decide_eq_true hs)] at q
      exact ⟨wv, rfl, .ref lv, rfl, .ref gv, rfl, .ref rv, rfl, wv, lv, gv, rv, n, ts, lim, given, rows, rfl, hK, l120, hrv, fun x hx => (prows.1 x hx).up, hT, q⟩
    | false =>
      rw [if_neg (of_decide_eq_false hs)] at q
      exact q _ (Kt.refl hT)
/-- the three defs that call one another, by depth -/
theorem ok_knots {fk fs fc : Addr} {dk ds dc : FuncData} {Ps : List Addr} (Fk : Fun K "knot_shows" "knot_shows" s_knot_shows fk dk) (Fs : Fun K "split_shows" "split_shows" s_split_shows fs ds) (Fc : Fun K "case_shows" "case_shows" s_case_shows fc dc) (M : Free mg) (m_min : mg "min" = none) (gk : mg "knot_shows" = some (.ref fk)) (gs : mg "split_shows" = some (.ref fs)) (gc : mg "case_shows" = some (.ref fc))
    (bk : Binds K dk ["web", "limits", "given", "thing"] []) (bs : Binds K ds ["web", "limits", "given", "rows"] []) (bc : Binds K dc ["web", "limits", "given", "thing"] []) (D_is_tuple_of : Df P w K mg base 1 "is_tuple_of" ["length", "thing"] spTupleOf) (D_rings_show : Df P w K mg base 11 "rings_show" ["web", "limits", "given", "rows"] (spRingsShow Ps)) (D_is_split_row : Df P w K mg base 6 "is_split_row" ["limits", "given", "taken", "thing"] (spSplitRow Ps)) (D_are_unlike_places : Df P w K mg base 3 "are_unlike_places" ["many", "one", "other"] spUnlikePl) :
    ∀ d : Nat, FnOk P w K mg base CX0 (20 + 2 * d) fk dk ["web", "limits", "given", "thing"] (spKnot Ps d)
  | 0 => ⟨fun vs H Q E h => h.elim, fun B out z H ar us vs Q E _ _ _ _ h => h.elim⟩
  | d + 1 => by
    have Dk : Df P w K mg base (20 + 2 * d) "knot_shows" ["web", "limits", "given", "thing"] (spKnot Ps d) := ⟨fk, dk, ok_knots Fk Fs Fc M m_min gk gs gc bk bs bc D_is_tuple_of D_rings_show D_is_split_row D_are_unlike_places d, gk, Fk.kp, bk⟩
    have Ds : Df P w K mg base (20 + 2 * d + 1) "split_shows" ["web", "limits", "given", "rows"] (spSplitShows Ps d) := ⟨fs, ds, ok_split_shows d Fs D_is_split_row Dk, gs, Fs.kp, bs⟩
    have Dc : Df P w K mg base (20 + 2 * d + 1) "case_shows" ["web", "limits", "given", "thing"] (spCaseShows Ps d) := ⟨fc, dc, ok_case_shows d Fc m_min D_are_unlike_places Dk, gc, Fc.kp, bc⟩
    have e : 20 + 2 * (d + 1) = 20 + 2 * d + 1 + 1 := by omega
    rw [e]
    exact ok_knot_step d Fk M D_is_tuple_of Dc D_rings_show Ds
end
/-! ### weights of ties -/
section
variable {P : Program} {w : World} {K : PySem.W.Frag} {mg : Str → Option Value} {base : Heap}
end
/-! ### papers: shown_by -/
def limW (g : Int → Int) (m : Nat) : List Int := (rng m).map fun x => 2 * g x
theorem limW_len (g : Int → Int) (m : Nat) : (limW g m).length = m := by
  unfold limW
  rw [List.length_map, rng_length]
theorem limW_succ (g : Int → Int) (m : Nat) : limW g (m + 1) = limW g m ++ [2 * g (m : Int)] := by
  unfold limW
  rw [rng_succ, List.map_append]
  rfl
theorem rng_nd49 (m : Nat) : (rng m).Nodup := (rng_rising m).imp fun {a b} h => by omega
/-- a dict over a range -/
theorem dc_range49 {n : Nat} {g : TG} {tt : TT} {tk tv : TE} {vs : List Nat} {σ : L2.St} {H1 : Hp} {D : Addr} {Qd : Hp → Prop} (Pv : Nat → Hp → Prop) (h0 : Pv 0 (upd H1 D (.dK [])))
    (hs : ∀ (j : Nat) H, j < n → Pv j H → g (.int (0 + (j : Nat))) (wipe σ vs) H fun σ2 H2 => wipe σ2 vs = wipe σ vs ∧ tt σ2 H2 fun b H3 =>
      if b = true then tk σ2 H3 fun y H4 => tv σ2 H4 fun z H5 => ∃ kvs k, y = kV k ∧ H5 D = some (.dK kvs) ∧ kvs.length < sizeLine ∧ Pv (j + 1) (upd H5 D (.dK (putK kvs k z))) else Pv (j + 1) H3) (hd : ∀ H, Pv n H → Qd H) :
    ∃ W : Nat → Nat → Hp → Prop, (∃ m, W 0 m (upd H1 D (.dK []))) ∧ ∀ i m H, W i m H →
      ((Itr 0 n).stop i H ∧ Qd H) ∨ ((Itr 0 n).go i H ∧ ∃ Nx : Hp → Prop, (∀ H', Nx H' → ∃ m', m' < m ∧ W (i + 1) m' H') ∧ ∀ x H', (Itr 0 n).yld i H x H' → g x (wipe σ vs) H' fun σ2 H2 => wipe σ2 vs = wipe σ vs ∧ tt σ2 H2 fun b H3 =>
        if b = true then tk σ2 H3 fun y H4 => tv σ2 H4 fun z H5 => ∃ kvs k, y = kV k ∧ H5 D = some (.dK kvs) ∧ kvs.length < sizeLine ∧ Nx (upd H5 D (.dK (putK kvs k z))) else Nx H3) := by
  refine ⟨fun i m H => m = n - i ∧ i ≤ n ∧ Pv i H, ⟨n, by simp, Nat.zero_le _, h0⟩, ?_⟩
  rintro i m H ⟨rfl, hi, p⟩
  by_cases hlt : i < n
  · refine .inr ⟨hlt, Pv (i + 1), fun H' p' => ⟨n - (i + 1), by omega, rfl, hlt, p'⟩, fun x H' y => ?_⟩
    obtain ⟨e, y⟩ := y
    subst e
    subst y
    exact hs i _ hlt p
  · have e : i = n := by omega
    subst e
    exact .inl ⟨Nat.le_refl _, hd H p⟩
def spShownBy (Ps : List Addr) (d : Nat) : Sp := fun vs H Q _ => ∃ (wv wt v : V) (n : Int) (ts : List Tie) (g : Int → Int), vs = [wv, wt, v] ∧ WebAt H wv n ts ∧ WebOk n ts ∧ ts.length + d ≤ 120 ∧ Wts H wt (rng ts.length) g ∧ PapV d H v ∧ Tabs Ps H ∧ ∀ H', Kt Ps H H' → Q (optV (shownS (d + 1) H n ts (limW g ts.length) (rng ts.length) v)) H'
section
variable {P : Program} {w : World} {K : PySem.W.Frag} {mg : Str → Option Value} {base : Heap}
set_option maxHeartbeats 4000000 in
theorem ok_shown_by {f : Addr} {fd : FuncData} {Ps : List Addr} (d : Nat) (F : Fun K "shown_by" "shown_by" s_shown_by f fd) (M : Free mg) (D_weight_of : Df P w K mg base 1 "weight_of" ["weights", "tie"] spWeightOf) (D_knot_shows : Df P w K mg base (20 + 2 * (d + 1)) "knot_shows" ["web", "limits", "given", "thing"] (spKnot Ps (d + 1))) : FnOk P w K mg base CX0 (23 + 2 * d) f fd ["web", "weights", "thing"] (spShownBy Ps d) := by
  obtain ⟨f_weight_of, fd_weight_of, G_weight_of, g_weight_of, k_weight_of, b_weight_of⟩ := D_weight_of
  obtain ⟨f_knot_shows, fd_knot_shows, G_knot_shows, g_knot_shows, k_knot_shows, b_knot_shows⟩ := D_knot_shows
  rw [show 23 + 2 * d = 22 + 2 * d + 1 by omega]
  refine F.ok sc_shown_by (fun vs H Q E h => ?_) (fun cdv A outer s H vs Q E hr h => ?_)
  · obtain ⟨wv, wt, v, n, ts, g, rfl, _⟩ := h
    rfl
  · obtain ⟨wv, wt, v, n, ts, g, rfl, hW, ok, l120, hwt, hP, hT, q⟩ := h
    refine ⟨_, (pss_cons (ps_setLc (i := 3) (own := [("tie", 4)]) (g := (gName 4)) (tt := tYes) rfl sc_shown_by.nd rfl rfl (sw_true rfl rfl rfl (by decide +kernel)) (pi_range1 (by rfl) M.range (pa_cons (pe_callB call_len_seq (by rfl) M.len PySem.boot_len (pa_cons (pe_ix ix_tup (pv 0) pe_int (fun _ _ => rfl)) pa_nil)) pa_nil)) (blkOk_by (N := N_shown_by) (sc := defScope s_shown_by) (own := [("tie", 4)]) (by decide +kernel)) (fun _ _ _ _ _ => (pg_name (i := 4) sc_shown_by.nd rfl (.inl rfl))) (fun _ _ _ _ _ => pts_nil) (fun _ _ _ _ _ => (pe_op op_mul pe_int (pe_call G_weight_of (hr.mono (by omega)) (by rfl) g_weight_of k_weight_of b_weight_of .nil pass0 (pa_cons (pv 1) (pa_cons (pv 4) pa_nil))))))
      (pss_cons (ps_setDc (i := 5) (own := [("tie", 4)]) (g := gName 4) (tt := tYes) rfl sc_shown_by.nd rfl rfl (sw_trueD rfl rfl rfl (by decide +kernel)) (pi_range1 (by rfl) M.range (pa_cons (pe_callB call_len_seq (by rfl) M.len PySem.boot_len (pa_cons (pe_ix ix_tup (pv 0) pe_int (fun _ _ => rfl)) pa_nil)) pa_nil)) (blkOk_by (N := N_shown_by) (sc := defScope s_shown_by) (own := [("tie", 4)]) (by decide +kernel)) (fun _ _ _ _ _ => (pg_name (i := 4) sc_shown_by.nd rfl (.inl rfl))) (fun _ _ _ _ _ => pts_nil) (fun _ _ _ _ _ => (pv 4)) (fun _ _ _ _ _ => pe_bl))
      (pss_one (ps_ret (pe_call G_knot_shows (hr.mono (by omega)) (by rfl) g_knot_shows k_knot_shows b_knot_shows .nil pass0 (pa_cons (pv 0) (pa_cons (pv 3) (pa_cons (pv 5) (pa_cons (pv 2) pa_nil))))))))), ?_⟩
    obtain ⟨wa, wb, us, rfl, hwa, hwb, hpw⟩ := id hW
    have fts := ok.few
    have lus : us.length = ts.length := Paired.length hpw
    refine ⟨.ref wa, rfl, wa, _, 1, .ref wb, rfl, rfl, SqT.of hwa, rfl, wb, us, rfl, .inr (SqT.of hwb), us.length, rfl, by omega, by omega, fun Z nZ => ?_⟩
    rw [Int.toNat_natCast, lus]
    refine lc_range (lo := 0) (n := ts.length) (fun j H' => H' Z = some (.lst ((limW g j).map V.int)) ∧ Same H H') ⟨upd_same, same_new nZ⟩ ?_ ?_
    · rintro j H1 hj ⟨hZ, s1⟩
      have fin : ∀ w : Int, w = g (j : Int) → (upd H1 Z (.lst ((limW g j).map V.int ++ [.int (2 * w)]))) Z = some (.lst ((limW g (j + 1)).map V.int)) := fun w hw => by
        rw [upd_same, limW_succ, List.map_append, hw]
        rfl
      have hm : ((j : Nat) : Int) ∈ rng ts.length := mem_rng.mpr ⟨by omega, by omega⟩
      have lz : ((limW g j).map V.int).length < sizeLine := by rw [List.length_map, limW_len]; exact small1000 (by omega)
      rcases hwt.tk (Same.tk s1) with ⟨rfl, h1⟩ | ⟨a, ws, rfl, h1, h2⟩
      · refine ⟨rfl, .non, rfl, .int (0 + (j : Nat)), rfl, .inl ⟨_, rfl, ?_⟩⟩
        exact ⟨_, _, rfl, rfl, .inl ⟨by decide, by decide⟩, _, hZ, lz, fin 1 (h1 _ hm).symm, Same.mut s1 nZ⟩
      · obtain ⟨⟨b0, b1⟩, e⟩ := h2 _ hm
        refine ⟨rfl, .ref a, rfl, .int (0 + (j : Nat)), rfl, .inr ⟨a, _, _, _, rfl, h1, by rw [Int.zero_add]; exact gW_at b0 b1, ?_⟩⟩
        exact ⟨_, _, rfl, rfl, .inl ⟨by decide, by decide⟩, _, hZ, lz, fin _ e.symm, Same.mut s1 nZ⟩
    · rintro H1 ⟨hZ, s1⟩
      have k1 := Kt.same hT s1
      have T1 : Tabs Ps H1 := k1.tab
      refine ⟨.ref wa, rfl, wa, _, 1, .ref wb, rfl, rfl, SqT.of (s1 _ _ hwa), rfl, wb, us, rfl, .inr (SqT.of (s1 _ _ hwb)), us.length, rfl, by omega, by omega, fun D nD => ?_⟩
      rw [Int.toNat_natCast, lus]
      refine dc_range49 (n := ts.length) (fun j H' => H' D = some (.dK (kvG (rng j))) ∧ Same H1 H') ⟨upd_same, same_new nD⟩ ?_ ?_
      · rintro j H2 hj ⟨hD, s2⟩
        refine ⟨rfl, .int (0 + (j : Nat)), rfl, kvG (rng j), Sum.inl (0 + (j : Nat)), rfl, hD, ?_, ?_, Same.mut s2 nD⟩
        · unfold kvG
          rw [List.length_map, rng_length]
          exact small1000 (by omega)
        · rw [upd_same, Int.zero_add, kvG_put (fun z => by have := (mem_rng.mp z).2; omega), rng_succ]
      · rintro H2 ⟨hD, s2⟩
        have s02 := s1.trans s2
        have k2 := Kt.same hT s02
        have T2 : Tabs Ps H2 := k2.tab
        refine ⟨.ref wa, rfl, .ref Z, rfl, .ref D, rfl, v, rfl, .ref wa, Z, D, v, n, ts, limW g ts.length, rng ts.length, rfl, ⟨hW.tk (Same.tk s02), ok, s2 _ _ hZ, by rw [limW_len]; exact Nat.le_refl _, hD, fun e he => by rw [limW_len]; exact mem_rng.mp he, rng_nd49 _⟩, l120, hP.stay (.same s02), T2, fun H3 k3 => ?_⟩
        have e3 : shownS (d + 1) H2 n ts (limW g ts.length) (rng ts.length) v = shownS (d + 1) H n ts (limW g ts.length) (rng ts.length) v := shown_stay hP (.same s02) ..
        rw [e3]
        exact q H3 (k2.trans k3)
end
/-! ### ties that sides break -/
section
variable {P : Program} {w : World} {K : PySem.W.Frag} {mg : Str → Option Value} {base : Heap}
theorem ok_breaks_t {f : Addr} {fd : FuncData} (F : Fun K "breaks" "breaks" s_breaks f fd) : FnOk P w K mg base CX0 1 f fd ["sides", "tie"] spBreaks := by
  refine F.ok sc_breaks (fun vs H Q E h => ?_) (fun cdv A outer s H vs Q E hr h => ?_)
  · obtain ⟨a, b, ss, t, rfl, _⟩ := h
    rfl
  · obtain ⟨a, b, ss, t, rfl, ha, hb, ok, q⟩ := h
    refine ⟨_, (pss_cons (ps_asg (pv 1) (pg_tup rfl (pgs_cons (pg_name (i := 2) sc_breaks.nd rfl (.inl rfl)) (pgs_cons (pg_name (i := 3) sc_breaks.nd rfl (.inl rfl)) (pgs_cons (pg_name (i := 4) sc_breaks.nd rfl (.inl rfl)) pgs_nil)))))
      (pss_one (ps_ret (pe_cmpR op_eq (pe_cmpR op_eq (pe_ix ix_tup (pv 0) (pv 2) (fun _ _ => rfl)) (pe_ix ix_tup (pv 0) (pv 3) (fun _ _ => rfl)) (nomark _)) (pe_cmpR op_eq (pv 4) pe_str (nomark _)) (nomark _))))), ?_⟩
    refine ⟨.ref b, rfl, b, _, rfl, SqT.of hb, rfl, _, _, rfl, _, _, rfl, _, _, rfl, rfl, ?_⟩
    refine ⟨.ref a, rfl, .int t.one, rfl, a, _, t.one, _, rfl, rfl, SqT.of ha, atI_sd ok.1 ok.2.1, .ref a, rfl, .int t.other, rfl, a, _, t.other, _, rfl, rfl, SqT.of ha, atI_sd ok.2.2.1 ok.2.2.2.1, rfl, .str (kindS t.foe), rfl, rfl, rfl, ?_⟩
    rw [eq_brk]
    exact q
theorem ok_broken_by {f : Addr} {fd : FuncData} (F : Fun K "broken_by" "broken_by" s_broken_by f fd) (M : Free mg) (me : mg "enumerate" = none) (D1 : Df P w K mg base 1 "breaks" ["sides", "tie"] spBreaks) : FnOk P w K mg base CX0 2 f fd ["web", "sides"] spBroken := by
  obtain ⟨f1, fd1, G1, g1, k1, b1⟩ := D1
  refine F.ok sc_broken_by (fun vs H Q E h => ?_) (fun cdv A outer s H vs Q E hr h => ?_)
  · obtain ⟨v, a, n, ts, ss, rfl, _⟩ := h
    rfl
  · obtain ⟨v, a, n, ts, ss, rfl, ⟨wa, wb, us, rfl, hwa, hwb, hp⟩, ok, ha, hl, q⟩ := h
    refine ⟨_, (pss_one (ps_ret (pe_callTy call_tuple_of (by rfl) M.tuple (by decide +kernel) (pa_cons (pe_lc (own := [("number", 2), ("tie", 3)]) (g := gTup K 2 (gCons (gName 2) (gCons (gName 3) gNil))) (te := tVar 2) rfl sc_broken_by.nd (pi_enumT (by rfl) me (pa_cons (pe_ix ix_tup (pv 0) pe_int (fun _ _ => rfl)) pa_nil)) (blkOk_by (N := N_broken_by) (sc := defScope s_broken_by) (own := [("number", 2), ("tie", 3)]) (by decide +kernel)) (fun _ _ _ _ _ => (pg_tup rfl (pgs_cons (pg_name (i := 2) sc_broken_by.nd rfl (.inl rfl)) (pgs_cons (pg_name (i := 3) sc_broken_by.nd rfl (.inl rfl)) pgs_nil)))) (fun _ _ _ _ _ => (pts_one (pt_val (pe_call G1 hr (by rfl) g1 k1 b1 .nil pass0 (pa_cons (pv 1) (pa_cons (pv 3) pa_nil)))))) (fun _ _ _ _ _ => (pv 2))) pa_nil)))), ?_⟩
    have hlen : us.length = ts.length := Paired.length hp
    have few := ok.few
    refine ⟨.ref wa, rfl, wa, _, 1, .ref wb, rfl, rfl, SqT.of hwa, rfl, wb, us, rfl, SqT.of hwb, fun Z nZ => ?_⟩
    refine lc_it (walk_enumT (xs := us)) (fun i H' => H' Z = some (.lst ((badTo ss ts i).map V.int)) ∧ Same H H') ⟨upd_same, same_new nZ⟩ (fun i H' _ h => SqT.of (h.2 _ _ hwb)) ?_ ?_
    · rintro i x H1 H2 hi ⟨hZ, s1⟩ ⟨T, x1, y, rfl, nT, rfl, e1, e2⟩
      obtain rfl : V.int (i : Nat) = x1 := Option.some.inj e1
      obtain ⟨t, et, c, rfl, hc⟩ := Paired.at hp e2
      have okt := ok.ok t (List.mem_of_getElem? et)
      have s2 := s1.trans (same_new (o := .tup [.int (i : Nat), .ref c]) nT)
      have hZ2 := same_new (o := .tup [.int (i : Nat), .ref c]) nT _ _ hZ
      refine ⟨T, _, rfl, SqT.of upd_same, rfl, _, _, rfl, _, _, rfl, rfl, rfl, .ref a, rfl, .ref c, rfl, a, c, ss, t, rfl, s2 _ _ ha, s2 _ _ hc, by rw [hl]; exact okt, _, rfl, ?_⟩
      have et2 := tieAt_of et
      have lb := badTo_len ss ts i
      rw [badTo_succ, et2, List.map_append]
      by_cases hb : brk ss t = true
      · rw [hb]
        exact ⟨.int i, rfl, _, hZ2, by rw [List.length_map]; exact small1000 (by omega), upd_same, fun b o e => by rw [upd_ne (ne_of_none e nZ)]; exact s2 b o e⟩
      · rw [Bool.not_eq_true] at hb
        rw [hb]
        simp only [Bool.false_eq_true, if_false, List.map_nil, List.append_nil]
        exact ⟨hZ2, s2⟩
    · rintro H1 ⟨hZ, s1⟩
      rw [hlen] at hZ
      refine ⟨Z, _, rfl, .inl ⟨SqL.of hZ, fun r nr => ?_⟩⟩
      exact q r _ (s1.trans (same_new nr)) upd_same
end
/-! ### sides put over -/
/-! ### the fixed choice, as it is told -/
section
variable {P : Program} {w : World} {K : PySem.W.Frag} {mg : Str → Option Value} {base : Heap}
theorem ok_sides_of {f : Addr} {fd : FuncData} (F : Fun K "sides_of" "sides_of" s_sides_of f fd) (M : Free mg) (D1 : Df P w K mg base 1 "neighbours" ["web"] spNeighbours) (D2 : Df P w K mg base 1 "sides_from" ["start", "around"] spSidesFrom) (D3 : Df P w K mg base 2 "broken_by" ["web", "sides"] spBroken) : FnOk P w K mg base CX0 3 f fd ["web"] spFixed := by
  obtain ⟨f1, fd1, G1, g1, k1, b1⟩ := D1
  obtain ⟨f2, fd2, G2, g2, k2, b2⟩ := D2
  obtain ⟨f3, fd3, G3, g3, k3, b3⟩ := D3
  refine F.ok sc_sides_of (fun vs H Q E h => ?_) (fun cdv A outer sh H vs Q E hr h => ?_)
  · obtain ⟨v, n, ts, rfl, _⟩ := h
    rfl
  · obtain ⟨v, n, ts, rfl, hw, ok, q, qn⟩ := h
    have hu := room1 hr
    have hr1 : Room 1 _ := hr.mono (by decide : 1 ≤ 2)
    have hk : n ≤ 40 := by have := ok.hi; omega
    refine ⟨_, (pss_cons (ps_set (i := 1) sc_sides_of.nd rfl (.inl rfl) (pe_call G1 hr1 (by rfl) g1 k1 b1 .nil pass0 (pa_cons (pv 0) pa_nil)))
      (pss_cons (ps_set (i := 2) sc_sides_of.nd rfl (.inr rfl) pe_dnewK)
      (Evl.pss_cut (ps_for PassesOwn.never rfl (pi_range1 (by rfl) M.range (pa_cons (pe_ix ix_tup (pv 0) pe_int (fun _ _ => rfl)) pa_nil)) (pg_name (i := 3) sc_sides_of.nd rfl (.inl rfl))
        (pss_one (ps_if (pt_cmp (pc_dnotin hu (pv 3) (pv 2)))
          (pss_one (ps_expr (pe_bm PySem.F.plainAttrs_dict PySem.F.slot_dict_update PySem.F.type_dict_update mt_update (pv 2) (pa_cons (pe_call G2 hr1 (by rfl) g2 k2 b2 .nil pass0 (pa_cons (pv 3) (pa_cons (pv 1) pa_nil))) pa_nil))))
          pss_nil)))
      (pss_cons (ps_set (i := 4) sc_sides_of.nd rfl (.inl rfl) (pe_callTy call_tuple_of (by rfl) M.tuple (by decide +kernel) (pa_cons (pe_lc (own := [("place", 5)]) (g := gName 5) (tt := tYes) rfl sc_sides_of.nd (pi_range1 (by rfl) M.range (pa_cons (pe_ix ix_tup (pv 0) pe_int (fun _ _ => rfl)) pa_nil)) (blkOk_by (N := N_sides_of) (sc := defScope s_sides_of) (own := [("place", 5)]) (by decide +kernel)) (fun _ _ _ _ _ => (pg_name (i := 5) sc_sides_of.nd rfl (.inl rfl))) (fun _ _ _ _ _ => pts_nil) (fun _ _ _ _ _ => (pe_dget hu (pv 2) (pv 5) (fun _ _ => rfl)))) pa_nil)))
      (pss_cons (ps_if (pt_cmpR (op_neD hr.units) (pe_call G3 hr (by rfl) g3 k3 b3 .nil pass0 (pa_cons (pv 0) (pa_cons (pv 4) pa_nil))) (pe_tup pa_nil) (nomark _))
        (pss_one (ps_ret pe_non))
        pss_nil)
      (pss_one (ps_ret (pv 4)))))))), ?_⟩
    -- around, told
    refine ⟨v, rfl, v, n, ts, rfl, hw, ok, fun u H1 hA s1 pD nD => ?_⟩
    have nDH : H pD = none := s1.free nD
    have sA : Same H1 (upd H1 pD (.dK [])) := same_new nD
    have hw0 := hw
    obtain ⟨a, b, vs, rfl, ha, hb, hp⟩ := hw
    refine ⟨fun σ' H' => ∃ (y3 : Option V) (kvs : List (Key × V)), σ' = [some (.ref a), some u, some (.ref pD), y3, none, none] ∧ H' pD = some (.dK kvs) ∧ (∀ i : Nat, i < n → ∃ m b, leader ts m ∧ RP ts m i b ∧ valV kvs (Sum.inl (i : Int)) = some (.int (sideI b))) ∧ Same H1 H', ?_, ?_⟩
    · refine ⟨.ref a, rfl, a, _, 0, .int n, rfl, rfl, SqT.of (sA _ _ (s1 _ _ ha)), rfl, n, rfl, by omega, by omega, ?_⟩
      rw [Int.toNat_natCast]
      refine for_range (lo := 0) (n := n) (fun i σ' H' => ∃ (y3 : Option V) (kvs : List (Key × V)), σ' = [some (.ref a), some u, some (.ref pD), y3, none, none] ∧ H' pD = some (.dK kvs) ∧ kvs.length ≤ 40 * i ∧
        (∀ z, z ∈ kvs.map (·.1) ↔ ∃ y, z = Sum.inl y ∧ ∃ x, 0 ≤ x ∧ x < (i : Int) ∧ Rch ts x y) ∧ (∀ (y : Int) (v : V), valV kvs (Sum.inl y) = some v → ∃ m b, leader ts m ∧ RP ts m y b ∧ v = .int (sideI b)) ∧ Same H1 H') ?_ ?_ ?_
      · refine ⟨none, [], rfl, upd_same, by simp, fun z => ⟨fun h => by simp at h, ?_⟩, (fun y v h => by cases h), sA⟩
        rintro ⟨y, _, x, h1, h2, _⟩
        omega
      · rintro i σ' H2 hi ⟨y3, kvs, rfl, hD, hlen, hkeys, hvals, s2⟩
        rw [show (0 : Int) + (i : Nat) = i from by omega]
        have hir : 0 ≤ (i : Int) ∧ (i : Int) < n := by omega
        refine ⟨.int i, rfl, .ref pD, rfl, pD, _, rfl, DGet.k (k := Sum.inl (i : Int)) hD, _, rfl, ?_⟩
        have nx : ∀ y : Int, (∃ x, 0 ≤ x ∧ x < ((i + 1 : Nat) : Int) ∧ Rch ts x y) ↔ (∃ x, 0 ≤ x ∧ x < (i : Int) ∧ Rch ts x y) ∨ Rch ts i y := fun y => by
          constructor
          · rintro ⟨x, h1, h2, h3⟩
            by_cases e : x = i
            · subst e
              exact .inr h3
            · exact .inl ⟨x, h1, by omega, h3⟩
          · rintro (⟨x, h1, h2, h3⟩ | h)
            · exact ⟨x, h1, by omega, h3⟩
            · exact ⟨i, by omega, by omega, h⟩
        by_cases hin : (valV kvs (Sum.inl (i : Int))).isSome = true
        · rw [hin]
          obtain ⟨y, e, x, h1, h2, h3⟩ := (hkeys _).mp (valV_isSome.mp hin)
          cases e
          refine ⟨_, kvs, rfl, hD, by omega, fun z => ?_, hvals, s2⟩
          rw [hkeys]
          constructor
          · rintro ⟨y, e, h⟩
            exact ⟨y, e, (nx y).mpr (.inl h)⟩
          · rintro ⟨y, e, h⟩
            refine ⟨y, e, ?_⟩
            rcases (nx y).mp h with h | h
            · exact h
            · exact ⟨x, h1, h2, h3.trans h⟩
        · rw [Bool.not_eq_true] at hin
          rw [hin]
          have ld : leader ts (i : Int) := (lead_iff ok.ok hir).mpr fun ⟨x, h1, h2, h3⟩ => by
            have := valV_isSome.mpr ((hkeys (Sum.inl (i : Int))).mpr ⟨_, rfl, x, h1, h2, h3⟩)
            rw [hin] at this
            cases this
          refine ⟨.ref pD, rfl, .inr (.inr (.inl ⟨rfl, .inl ⟨_, hD⟩⟩)), .int i, rfl, u, rfl, u, n, i, ts, rfl, hA.same s2, ok, hir.1, hir.2, fun d ks H3 nd hd s3 so => ?_⟩
          have lks : ks.length ≤ n := by
            have q := pigeon n (ks.map (·.1)) so.nd fun x hx => Rch.rng ok.ok hir ((so.all x).mp hx)
            rw [List.length_map] at q
            exact q
          have hpd : pD ≠ d := ne_of_none hD nd
          refine ⟨pD, d, kvs, kvOf ks, rfl, rfl, s3 _ _ hD, hd, hpd, (by rw [kvOf_len, sizeLine_eq]; omega), ?_⟩
          refine ⟨_, mergeK kvs (kvOf ks), rfl, upd_same, ?_, fun z => ?_, fun y v hv => ?_, Same.mut (s2.trans s3) nD⟩
          · have := length_mergeK (kvOf ks) kvs
            rw [kvOf_len] at this
            omega
          · rw [mem_mergeK, hkeys, kvOf_keys]
            constructor
            · rintro (⟨y, e, h⟩ | h)
              · exact ⟨y, e, (nx y).mpr (.inl h)⟩
              · obtain ⟨y, hy, rfl⟩ := List.mem_map.mp h
                exact ⟨y, rfl, (nx y).mpr (.inr ((so.all y).mp hy))⟩
            · rintro ⟨y, rfl, h⟩
              rcases (nx y).mp h with h | h
              · exact .inl ⟨y, rfl, h⟩
              · exact .inr (List.mem_map.mpr ⟨y, (so.all y).mpr h, rfl⟩)
          · rcases valV_merge hv with h | h
            · exact hvals y v h
            · unfold kvOf at h
              obtain ⟨p, hp, e⟩ := List.mem_map.mp h
              cases e
              exact ⟨i, p.2, ld, so.rp p hp, rfl⟩
      · rintro σ' H2 ⟨y3, kvs, rfl, hD, hlen, hkeys, hvals, s2⟩
        refine ⟨_, kvs, rfl, hD, fun i hi => ?_, s2⟩
        obtain ⟨v, hv⟩ := Option.isSome_iff_exists.mp (valV_isSome.mpr ((hkeys (Sum.inl (i : Int))).mpr ⟨_, rfl, i, by omega, by omega, Rch.refl⟩))
        obtain ⟨m, b, l, r, rfl⟩ := hvals i v hv
        exact ⟨m, b, l, r, hv⟩
    rintro σ' H2 ⟨y3, kvs, rfl, hD, hvals, s2⟩
    have s12 := s1.trans s2
    -- sides
    refine ⟨.ref a, rfl, a, _, 0, .int n, rfl, rfl, SqT.of (s12 _ _ ha), rfl, n, rfl, by omega, by omega, fun Z nZ => ?_⟩
    rw [Int.toNat_natCast]
    refine lc_range (lo := 0) (n := n) (fun j H' => ∃ ss : List Int, H' Z = some (.lst (ss.map V.int)) ∧ ss.length = j ∧ (∀ (i : Nat) (x : Int), ss[i]? = some x → ∃ m b, leader ts m ∧ RP ts m i b ∧ x = sideI b) ∧ Same H2 H') ⟨[], upd_same, rfl, fun i x h => by simp at h, same_new nZ⟩ ?_ ?_
    · rintro j H3 hj ⟨ss, hZ, lj, hss, s3⟩
      rw [show (0 : Int) + (j : Nat) = j from by omega]
      obtain ⟨m, b, l, r, hv⟩ := hvals j hj
      refine ⟨rfl, .ref pD, rfl, .int j, rfl, pD, .int (sideI b), rfl, (by rw [← hv]; exact DGet.k (k := Sum.inl (j : Int)) (s3 _ _ hD)), _, hZ, by rw [List.length_map]; exact small1000 (by omega), ss ++ [sideI b], by rw [upd_same, List.map_append]; rfl, by rw [List.length_append, lj]; rfl, fun i x h => ?_, Same.mut s3 nZ⟩
      by_cases hi : i < ss.length
      · rw [List.getElem?_append_left hi] at h
        exact hss i x h
      · rw [List.getElem?_append_right (by omega)] at h
        have e : i = j := by
          have := (List.getElem?_eq_some_iff.mp h).1
          simp at this
          omega
        subst e
        rw [show i - ss.length = 0 from by omega] at h
        have hx : sideI b = x := Option.some.inj h
        exact ⟨m, b, l, r, hx.symm⟩
    · rintro H3 ⟨ss, hZ, lj, hss, s3⟩
      have told := told_of lj hss
      refine ⟨Z, _, rfl, .inl ⟨SqL.of hZ, fun t nt => ?_⟩⟩
      have s4 := (s12.trans s3).trans (same_new (o := .tup (ss.map V.int)) nt)
      have ht4 : (upd H3 t (.tup (ss.map V.int))) t = some (.tup (ss.map V.int)) := upd_same
      generalize upd H3 t (.tup (ss.map V.int)) = H4 at s4 ht4
      refine ⟨.ref a, rfl, .ref t, rfl, .ref a, t, n, ts, ss, rfl, hw0.tk (Same.tk s4), ok, ht4, by rw [lj], fun r H5 s5 h5 => ⟨Nat.zero_le _, fun z nz => ?_⟩⟩
      have s6 := same_new (o := .tup []) nz
      refine ⟨intsD (bad ss ts), intsD [], Dp.tup (SqT.of (s6 _ _ h5)) (dp_ints _), Dp.tup (SqT.of upd_same) (dp_ints []), shaped_intsD _, shaped_intsD _, _, rfl, ?_⟩
      rw [eqv_nil]
      have s46 := (s4.trans s5).trans s6
      have ht6 := s6 _ _ (s5 _ _ ht4)
      generalize upd H5 z (.tup []) = H6 at s46 ht6
      by_cases hbad : bad ss ts = []
      · rw [hbad]
        exact ⟨.ref t, rfl, q ss t H6 told (bad_nil.mp hbad) s46 ht6⟩
      · have hne : (bad ss ts).isEmpty = false := by
          cases e : bad ss ts with
          | nil => exact absurd e hbad
          | cons x y => rfl
        rw [hne]
        refine qn H6 ?_ s46
        obtain ⟨x, hx⟩ := List.exists_mem_of_ne_nil _ hbad
        unfold bad badTo at hx
        obtain ⟨h1, h2⟩ := List.mem_filter.mp hx
        exact told_odd ok.ok told (tieAt_mem h1) h2
end
/-! ### a web without ties -/
theorem ints_below {lim : Int} {xs : List V} (h : xs.all (wbelow lim) = true) : xs = (xs.map toI).map V.int ∧ ∀ k ∈ xs.map toI, 0 ≤ k ∧ k < lim := by
  rw [List.all_eq_true] at h
  constructor
  · rw [List.map_map]
    refine (List.map_id' xs).symm.trans (List.map_congr_left fun x hx => ?_)
    have := h x hx
    cases x with
    | int i => rfl
    | _ => cases this
  · intro k hk
    obtain ⟨x, hx, rfl⟩ := List.mem_map.mp hk
    have := h x hx
    cases x with
    | int i =>
      have this : (decide (0 ≤ i) && decide (i < lim)) = true := this
      rw [Bool.and_eq_true, decide_eq_true_iff, decide_eq_true_iff] at this
      exact this
    | _ => cases this
noncomputable def noOdd (ts : List Tie) (n : Nat) : Bool := @decide (¬ Odd ts n) (Classical.propDecidable _)
theorem noOdd_true {ts : List Tie} {n : Nat} (h : ¬ Odd ts n) : noOdd ts n = true := by unfold noOdd; exact @decide_eq_true _ (Classical.propDecidable _) h
theorem noOdd_false {ts : List Tie} {n : Nat} (h : Odd ts n) : noOdd ts n = false := by unfold noOdd; exact @decide_eq_false _ (Classical.propDecidable _) (fun z => z h)
noncomputable def mendB (H : Hp) (n : Nat) (ts : List Tie) (v : V) : Bool := riseB H ts.length v && match parts H v with
  | some xs => noOdd (keepTo ts (xs.map toI) ts.length) n
  | none => false
def spWithout : Sp := fun vs H Q _ => ∃ (wv : V) (p : Addr) (n : Int) (ts : List Tie) (ks : List Int), vs = [wv, .ref p] ∧ WebAt H wv n ts ∧ ts.length ≤ 120 ∧ H p = some (.tup (ks.map V.int)) ∧ ks.length ≤ 1000 ∧ ∀ v H', Same H H' → WebAt H' v n (keepTo ts ks ts.length) → Q v H'
def spMendHolds (Ps : List Addr) : Sp := fun vs H Q _ => ∃ (wv v : V) (n : Nat) (ts : List Tie), vs = [wv, v] ∧ WebAt H wv n ts ∧ WebOk n ts ∧ RowK H v ∧ Tabs Ps H ∧ ∀ H', Kt Ps H H' → Q (.bl (mendB H n ts v)) H'
section
variable {P : Program} {w : World} {K : PySem.W.Frag} {mg : Str → Option Value} {base : Heap}
theorem ok_without {f : Addr} {fd : FuncData} (F : Fun K "without" "without" s_without f fd) (M : Free mg) (m_enumerate : mg "enumerate" = none) : FnOk P w K mg base CX0 1 f fd ["web", "numbers"] spWithout := by
  refine F.ok sc_without (fun vs H Q E h => ?_) (fun cdv A outer s H vs Q E hr h => ?_)
  · obtain ⟨wv, p, n, ts, ks, rfl, _⟩ := h
    rfl
  · obtain ⟨wv, p, n, ts, ks, rfl, ⟨wa, wb, us, rfl, hwa, hwb, hp⟩, few, hP, lk, q⟩ := h
    have hu := room1 hr
    refine ⟨_, (pss_cons (ps_set (i := 2) sc_without.nd rfl (.inr rfl) (pe_dc (own := [("number", 3)]) (g := gName 3) (tt := tYes) rfl sc_without.nd (pi_tup (pv 1)) (blkOk_by (N := N_without) (sc := defScope s_without) (own := [("number", 3)]) (by decide +kernel)) (fun _ _ _ _ _ => (pg_name (i := 3) sc_without.nd rfl (.inl rfl))) (fun _ _ _ _ _ => pts_nil) (fun _ _ _ _ _ => (pv 3)) (fun _ _ _ _ _ => pe_bl)))
      (pss_one (ps_ret (pe_tup (pa_cons (pe_ix ix_tup (pv 0) pe_int (fun _ _ => rfl)) (pa_cons (pe_callTy call_tuple_of (by rfl) M.tuple (by decide +kernel) (pa_cons (pe_lc (own := [("number", 3), ("tie", 4)]) (g := (gTup K 2 (gCons (gName 3) (gCons (gName 4) gNil)))) (te := tVar 4) rfl sc_without.nd (pi_enumT (by rfl) m_enumerate (pa_cons (pe_ix ix_tup (pv 0) pe_int (fun _ _ => rfl)) pa_nil)) (blkOk_by (N := N_without) (sc := defScope s_without) (own := [("number", 3), ("tie", 4)]) (by decide +kernel)) (fun _ _ _ _ _ => (pg_tup rfl (pgs_cons (pg_name (i := 3) sc_without.nd rfl (.inl rfl)) (pgs_cons (pg_name (i := 4) sc_without.nd rfl (.inl rfl)) pgs_nil)))) (fun _ _ _ _ _ => (pts_one (pt_cmp (pc_dnotin hu (pv 3) (pv 2))))) (fun _ _ _ _ _ => (pv 4))) pa_nil)) pa_nil)))))), ?_⟩
    have hlen : us.length = ts.length := Paired.length hp
    refine ⟨.ref p, rfl, p, rfl, ⟨_, SqT.of hP⟩, fun D nD => ?_⟩
    refine dc_tup (xs := ks.map V.int) (fun i H' => ∃ kvs : List (Key × V), H' D = some (.dK kvs) ∧ kvs.length ≤ i ∧ (∀ k : Int, (valV kvs (Sum.inl k)).isSome = (ks.take i).contains k) ∧ Same H H') ⟨[], upd_same, Nat.le_refl _, fun k => rfl, same_new nD⟩ (fun i H' _ h => by
      obtain ⟨kvs, _, _, _, s1⟩ := h
      exact SqT.of (s1 _ _ hP)) ?_ ?_
    · rintro i x H1 ex ⟨kvs, hD, hl, hk, s1⟩
      rw [List.getElem?_map] at ex
      obtain ⟨y, hy, rfl⟩ := Option.map_eq_some_iff.mp ex
      have hi : i < ks.length := (List.getElem?_eq_some_iff.mp hy).1
      refine ⟨rfl, .int y, rfl, kvs, Sum.inl y, rfl, hD, small1000 (by omega), putK kvs (Sum.inl y) (.bl true), upd_same, ?_, fun k => ?_, Same.mut s1 nD⟩
      · have := length_putK kvs (Sum.inl y) (.bl true)
        omega
      · rw [valV_put, List.take_add_one, hy, Bool.eq_iff_iff]
        have hk' := hk k
        rw [Bool.eq_iff_iff] at hk'
        by_cases e : k = y
        · subst e
          rw [if_pos rfl]
          simp
        · rw [if_neg (fun z => e (Sum.inl.inj z)), hk']
          simp [e]
    · rintro H1 ⟨kvs, hD, hl, hk, s1⟩
      rw [List.length_map, List.take_length] at hk
      refine ⟨.ref wa, rfl, wa, _, 0, .int n, rfl, rfl, SqT.of (s1 _ _ hwa), rfl, .ref wa, rfl, wa, _, 1, .ref wb, rfl, rfl, SqT.of (s1 _ _ hwa), rfl, wb, us, rfl, SqT.of (s1 _ _ hwb), fun Z nZ => ?_⟩
      refine lc_it (walk_enumT (xs := us)) (fun i H' => ∃ vs : List V, H' Z = some (.lst vs) ∧ Paired (TieV H') vs (keepTo ts ks i) ∧ Same H1 H') ⟨[], upd_same, .nil, same_new nZ⟩ (fun i H' _ h => by
        obtain ⟨vs, _, _, s2⟩ := h
        exact SqT.of (s2 _ _ (s1 _ _ hwb))) ?_ ?_
      · rintro i x H2 H3 hi ⟨vs, hZ, hv, s2⟩ ⟨T, x1, y, rfl, nT, rfl, e1, e2⟩
        obtain rfl : V.int (i : Nat) = x1 := Option.some.inj e1
        obtain ⟨t, et, ht⟩ := Paired.at hp e2
        have s3 := s2.trans (same_new (o := .tup [.int (i : Nat), y]) nT)
        have hZ2 := same_new (o := .tup [.int (i : Nat), y]) nT _ _ hZ
        have hv2 := ties_tk (Same.tk (same_new (o := .tup [.int (i : Nat), y]) nT)) hv
        have lv : vs.length ≤ i := by
          rw [Paired.length hv]
          exact keepTo_len ts ks i
        refine ⟨T, _, rfl, SqT.of upd_same, rfl, _, _, rfl, _, _, rfl, rfl, rfl, .int (i : Nat), rfl, .ref D, rfl, D, _, rfl, DGet.k (k := Sum.inl (i : Int)) (s3 _ _ hD), _, rfl, ?_⟩
        have hki := hk i
        rw [keepTo_succ, tieAt_of et]
        cases hv3 : valV kvs (Sum.inl (i : Int)) with
        | none =>
          rw [hv3] at hki
          rw [← hki]
          refine ⟨y, rfl, vs, hZ2, small1000 (by omega), vs ++ [y], upd_same, ?_, Same.mut s3 nZ⟩
          exact Paired.snoc (ties_tk (tk_lst hZ2) hv2) ((ht.tk (Same.tk (s1.trans s3))).tk (tk_lst hZ2))
        | some z =>
          rw [hv3] at hki
          rw [← hki]
          refine ⟨vs, hZ2, ?_, s3⟩
          simp only [Option.isSome_some, if_true, List.append_nil]
          exact hv2
      · rintro H2 ⟨vs, hZ, hv, s2⟩
        rw [hlen] at hv
        refine ⟨Z, vs, rfl, .inl ⟨SqL.of hZ, fun r nr => ⟨by show 2 ≤ sizeLine; decide, fun o no => ?_⟩⟩⟩
        have s3 : Same H2 _ := (same_new (o := .tup vs) nr).trans (same_new (o := .tup [.int n, .ref r]) no)
        exact q _ _ ((s1.trans s2).trans s3) ⟨o, r, vs, rfl, upd_same, same_new no _ _ upd_same, ties_tk (Same.tk s3) hv⟩
theorem ok_mend_holds {f : Addr} {fd : FuncData} {Ps : List Addr} (F : Fun K "mend_holds" "mend_holds" s_mend_holds f fd) (M : Free mg) (D_without : Df P w K mg base 1 "without" ["web", "numbers"] spWithout) (D_sides_of : Df P w K mg base 3 "sides_of" ["web"] spFixed) (D_are_rising_below : Df P w K mg base 4 "are_rising_below" ["limit", "thing"] (spRising Ps)) : FnOk P w K mg base CX0 5 f fd ["web", "thing"] (spMendHolds Ps) := by
  obtain ⟨f_without, fd_without, G_without, g_without, k_without, b_without⟩ := D_without
  obtain ⟨f_sides_of, fd_sides_of, G_sides_of, g_sides_of, k_sides_of, b_sides_of⟩ := D_sides_of
  obtain ⟨f_are_rising_below, fd_are_rising_below, G_are_rising_below, g_are_rising_below, k_are_rising_below, b_are_rising_below⟩ := D_are_rising_below
  refine F.ok sc_mend_holds (fun vs H Q E h => ?_) (fun cdv A outer s H vs Q E hr h => ?_)
  · obtain ⟨wv, v, n, ts, rfl, _⟩ := h
    rfl
  · obtain ⟨wv, v, n, ts, rfl, hW, ok, hv, hT, q⟩ := h
    refine ⟨_, (pss_one (ps_ret (pe_and (pe_call G_are_rising_below (hr.mono (by decide)) (by rfl) g_are_rising_below k_are_rising_below b_are_rising_below .nil pass0 (pa_cons (pe_callB call_len_seq (by rfl) M.len PySem.boot_len (pa_cons (pe_ix ix_tup (pv 0) pe_int (fun _ _ => rfl)) pa_nil)) (pa_cons (pv 1) pa_nil))) (pe_one (pe_cmpR op_notN (pe_call G_sides_of (hr.mono (by decide)) (by rfl) g_sides_of k_sides_of b_sides_of .nil pass0 (pa_cons (pe_call G_without (hr.mono (by decide)) (by rfl) g_without k_without b_without .nil pass0 (pa_cons (pv 0) (pa_cons (pv 1) pa_nil))) pa_nil)) pe_non (nomark _)))))), ?_⟩
    obtain ⟨wa, wb, us, rfl, hwa, hwb, hp⟩ := hW
    have hlen : us.length = ts.length := Paired.length hp
    refine ⟨.ref wa, rfl, wa, _, 1, .ref wb, rfl, rfl, SqT.of hwa, rfl, wb, us, rfl, .inr (SqT.of hwb), v, rfl, us.length, v, rfl, hv, hT, fun H1 k1 => ?_⟩
    rw [hlen]
    refine ⟨_, rfl, ?_⟩
    have T1 : Tabs Ps H1 := k1.tab
    unfold mendB at q
    cases hb : riseB H ts.length v with
    | false =>
      rw [hb] at q
      exact q _ k1
    | true =>
      rw [hb, Bool.true_and] at q
      have hb' := hb
      unfold riseB at hb'
      cases hpt : parts H v with
      | none =>
        rw [hpt] at hb'
        cases hb'
      | some xs =>
        rw [hpt] at hb' q
        have hb' : (xs.all (wbelow ts.length) && chainB xs) = true := hb'
        rw [Bool.and_eq_true] at hb'
        obtain ⟨ei, hk⟩ := ints_below hb'.1
        obtain ⟨a, rfl, ha⟩ := parts_at hpt
        replace q : ∀ H', Kt Ps H H' → Q (.bl (noOdd (keepTo ts (xs.map toI) ts.length) n)) H' := q
        generalize hks : xs.map toI = ks at ei hk q
        subst ei
        have lk : ks.length ≤ 1000 := by
          have := (hv.2 _ hpt).2
          rw [List.length_map] at this
          exact this
        refine ⟨.ref wa, rfl, .ref a, rfl, .ref wa, a, n, ts, ks, rfl, ⟨wa, wb, us, rfl, k1.tup hT hwa, k1.tup hT hwb, ties_tk (k1.tk hT) hp⟩, ok.few, k1.tup hT ha, lk, fun v' H2 s2 hW2 => ?_⟩
        have k2 := k1.trans (Kt.same T1 s2)
        refine ⟨v', n, _, rfl, hW2, keepTo_ok ok ks, fun ss r H3 told cons s3 h3 => ?_, fun H3 odd s3 => ?_⟩
        · refine ⟨rfl, ?_⟩
          have no : ¬ Odd (keepTo ts ks ts.length) n := cons_no_odd told.bin (fun t ht => by rw [told.len]; exact ok.ok t (keepTo_mem ht)) cons
          rw [noOdd_true no] at q
          exact q _ (k2.trans (Kt.same k2.tab s3))
        · refine ⟨rfl, ?_⟩
          rw [noOdd_false odd] at q
          exact q _ (k2.trans (Kt.same k2.tab s3))
end
/-! ### papers of the mends: what is known to be broken -/
def knownF (ts : List Tie) (ks : List Nb) (es : List Int) : List Int := es.filter fun e => decide ((tieAt ts e).one ∈ ks.map (·.1)) && decide ((tieAt ts e).other ∈ ks.map (·.1))
def kbF (ts : List Tie) (ks : List Nb) (es : List Int) : List Int := (knownF ts ks es).filter fun e => brkF (cOf ks) (tieAt ts e)
def spKnown : Sp := fun vs H Q _ => ∃ (wv : V) (t a : Addr) (n : Int) (ts : List Tie) (ks : List Nb) (es : List Int), vs = [wv, .ref t, .ref a] ∧ WebAt H wv n ts ∧ WebOk n ts ∧ H t = some (.tup (es.map V.int)) ∧ (∀ e ∈ es, 0 ≤ e ∧ e < (ts.length : Int)) ∧ es.length ≤ 120 ∧ H a = some (.dK (kvOf ks)) ∧ (ks.map (·.1)).Nodup ∧
  ∀ r H', Same H H' → H r = none → H' r = some (.lst ((kbF ts ks es).map V.int)) → Q (.ref r) H'
theorem filter_snoc (f : Int → Bool) {es : List Int} {j : Nat} {e : Int} (h : es[j]? = some e) : (es.take (j + 1)).filter f = (es.take j).filter f ++ (if f e = true then [e] else []) := by
  rw [List.take_add_one, h, List.filter_append]
  congr 1
  show [e].filter f = _
  rw [List.filter_cons]
  cases f e <;> rfl
theorem filter_take_len (f : Int → Bool) (es : List Int) (j : Nat) : ((es.take j).filter f).length ≤ es.length := by
  have h1 := List.length_filter_le f (es.take j)
  rw [List.length_take] at h1
  omega
theorem ints_at {es : List Int} {j : Nat} {x : V} (h : (es.map V.int)[j]? = some x) : ∃ e, es[j]? = some e ∧ x = .int e := by
  rw [List.getElem?_map] at h
  cases hP : es[j]? with
  | none => rw [hP] at h; cases h
  | some pl => rw [hP] at h; exact ⟨pl, rfl, (Option.some.inj h).symm⟩
theorem web_at {H : Hp} {us : List V} {ts : List Tie} (hp : Paired (TieV H) us ts) {e : Int} (h0 : 0 ≤ e) (h1 : e < (ts.length : Int)) : ∃ c, atI us e = some (.ref c) ∧ H c = some (.tup [.int (tieAt ts e).one, .int (tieAt ts e).other, .str (kindS (tieAt ts e).foe)]) := by
  have lus : us.length = ts.length := Paired.length hp
  obtain ⟨ut, eut, euo⟩ := getI (xs := us) h0 (by omega)
  obtain ⟨t', et', cc, rfl, hcc⟩ := Paired.at hp euo
  have ett : tieAt ts e = t' := by
    have := tieAt_of et'
    rw [Int.toNat_of_nonneg h0] at this
    exact this
  exact ⟨cc, eut, by rw [ett]; exact hcc⟩
section
variable {P : Program} {w : World} {K : PySem.W.Frag} {mg : Str → Option Value} {base : Heap}
set_option maxHeartbeats 4000000 in
theorem ok_known_broken {f : Addr} {fd : FuncData} (F : Fun K "known_broken" "known_broken" s_known_broken f fd) (D_breaks : Df P w K mg base 1 "breaks" ["sides", "tie"] spBreaksD) : FnOk P w K mg base CX0 2 f fd ["web", "ties", "sides"] spKnown := by
  obtain ⟨f_breaks, fd_breaks, G_breaks, g_breaks, k_breaks, b_breaks⟩ := D_breaks
  refine F.ok sc_known_broken (fun vs H Q E h => ?_) (fun cdv A outer s H vs Q E hr h => ?_)
  · obtain ⟨wv, t, a, n, ts, ks, es, rfl, _⟩ := h
    rfl
  · obtain ⟨wv, t, a, n, ts, ks, es, rfl, ⟨wa, wb, us, rfl, hwa, hwb, hp⟩, ok, ht, er, l120, ha, nd, q⟩ := h
    have hu := room1 hr
    refine ⟨_, (pss_cons (ps_setLc (i := 3) (own := [("tie", 4)]) (g := (gName 4)) (te := tVar 4) rfl sc_known_broken.nd rfl rfl (sw_true rfl rfl rfl (by decide +kernel)) (pi_tup (pv 1)) (blkOk_by (N := N_known_broken) (sc := defScope s_known_broken) (own := [("tie", 4)]) (by decide +kernel)) (fun _ _ _ _ _ => (pg_name (i := 4) sc_known_broken.nd rfl (.inl rfl)))
        (fun _ _ _ _ _ => (pts_one (PW.pt (pw_and (pt_cmp (pc_din hu (pe_ix (r := rIxT K) ix_tup (pe_ix (r := rIxT K) ix_tup (pe_ix (r := rIxT K) ix_tup (pv 0) pe_int (fun _ _ => rfl)) (pv 4) (fun _ _ => rfl)) pe_int (fun _ _ => rfl)) (pv 2))) (pw_and1 (pt_cmp (pc_din hu (pe_ix (r := rIxT K) ix_tup (pe_ix (r := rIxT K) ix_tup (pe_ix (r := rIxT K) ix_tup (pv 0) pe_int (fun _ _ => rfl)) (pv 4) (fun _ _ => rfl)) pe_int (fun _ _ => rfl)) (pv 2)))))))) (fun _ _ _ _ _ => (pv 4)))
      (pss_one (ps_ret (pe_lc (own := [("tie", 4)]) (g := (gName 4)) (te := tVar 4) rfl sc_known_broken.nd (pi_list (pv 3)) (blkOk_by (N := N_known_broken) (sc := defScope s_known_broken) (own := [("tie", 4)]) (by decide +kernel)) (fun _ _ _ _ _ => (pg_name (i := 4) sc_known_broken.nd rfl (.inl rfl))) (fun _ _ _ _ _ => (pts_one (pt_val (pe_call G_breaks (hr.mono (by decide)) (by rfl) g_breaks k_breaks b_breaks .nil pass0 (pa_cons (pv 2) (pa_cons (pe_ix (r := rIxT K) ix_tup (pe_ix (r := rIxT K) ix_tup (pv 0) pe_int (fun _ _ => rfl)) (pv 4) (fun _ _ => rfl)) pa_nil)))))) (fun _ _ _ _ _ => (pv 4)))))), ?_⟩
    have fall : ∀ {z : Int}, z ∉ ks.map (·.1) → valV (kvOf ks) (Sum.inl z) = none := fun h => kvOf_none h
    refine ⟨.ref t, rfl, t, rfl, ⟨_, SqT.of ht⟩, fun Z nZ => ?_⟩
    refine lc_tup (xs := es.map V.int) (fun j H' => H' Z = some (.lst ((knownF ts ks (es.take j)).map V.int)) ∧ Same H H') ⟨upd_same, same_new nZ⟩ (fun j H' _ h => SqT.of (h.2 _ _ ht)) ?_ ?_
    · rintro j x H1 ej ⟨hZ, s1⟩
      obtain ⟨e, ee, rfl⟩ := ints_at ej
      have e01 := er e (List.mem_of_getElem? ee)
      obtain ⟨c, ec, hc⟩ := web_at hp e01.1 e01.2
      have eq1 := filter_snoc (fun e => decide ((tieAt ts e).one ∈ ks.map (·.1)) && decide ((tieAt ts e).other ∈ ks.map (·.1))) ee
      have l1 := filter_take_len (fun e => decide ((tieAt ts e).one ∈ ks.map (·.1)) && decide ((tieAt ts e).other ∈ ks.map (·.1))) es j
      have hwa1 := SqT.of (K := K) (s1 _ _ hwa)
      have hwb1 := SqT.of (K := K) (s1 _ _ hwb)
      have hc1 := SqT.of (K := K) (s1 _ _ hc)
      refine ⟨rfl, .ref wa, rfl, wa, _, 1, .ref wb, rfl, rfl, hwa1, rfl, .int e, rfl, wb, us, e, .ref c, rfl, rfl, hwb1, ec, c, _, 0, _, rfl, rfl, hc1, rfl, .ref a, rfl, a, _, rfl, DGet.k (k := Sum.inl (tieAt ts e).one) (s1 _ _ ha), _, rfl, ?_⟩
      by_cases h1 : (tieAt ts e).one ∈ ks.map (·.1)
      · obtain ⟨⟨z1, b1⟩, m1, z1e⟩ := List.mem_map.mp h1
        have z1e : z1 = (tieAt ts e).one := z1e
        subst z1e
        rw [kvOf_some nd m1]
        refine ⟨.ref wa, rfl, wa, _, 1, .ref wb, rfl, rfl, hwa1, rfl, .int e, rfl, wb, us, e, .ref c, rfl, rfl, hwb1, ec, c, _, 1, _, rfl, rfl, hc1, rfl, .ref a, rfl, a, _, rfl, DGet.k (k := Sum.inl (tieAt ts e).other) (s1 _ _ ha), _, rfl, ?_⟩
        by_cases h2 : (tieAt ts e).other ∈ ks.map (·.1)
        · obtain ⟨⟨z2, b2⟩, m2, z2e⟩ := List.mem_map.mp h2
          have z2e : z2 = (tieAt ts e).other := z2e
          subst z2e
          rw [kvOf_some nd m2]
          refine ⟨.int e, rfl, _, hZ, by rw [List.length_map]; exact small1000 (by unfold knownF; omega), ?_, fun b o e => by rw [upd_ne (ne_of_none e nZ)]; exact s1 b o e⟩
          rw [upd_same]
          unfold knownF
          rw [eq1, if_pos (by rw [decide_eq_true h1, decide_eq_true h2]; rfl), List.map_append]
          rfl
        · rw [kvOf_none h2]
          refine ⟨?_, s1⟩
          unfold knownF at hZ ⊢
          rw [eq1, if_neg (by rw [decide_eq_false h2, Bool.and_false]; exact Bool.false_ne_true), List.append_nil]
          exact hZ
      · rw [kvOf_none h1]
        refine ⟨?_, s1⟩
        unfold knownF at hZ ⊢
        rw [eq1, if_neg (by rw [decide_eq_false h1]; exact Bool.false_ne_true), List.append_nil]
        exact hZ
    · rintro H1 ⟨hZ, s1⟩
      rw [List.length_map, List.take_length] at hZ
      refine ⟨.ref Z, rfl, Z, rfl, ⟨_, SqL.of hZ⟩, fun Y nY => ?_⟩
      have nY0 := s1.free nY
      have lk : (knownF ts ks es).length ≤ 120 := by
        have h1 := List.length_filter_le (fun e => decide ((tieAt ts e).one ∈ ks.map (·.1)) && decide ((tieAt ts e).other ∈ ks.map (·.1))) es
        unfold knownF
        omega
      have inK : ∀ e ∈ knownF ts ks es, e ∈ es ∧ (tieAt ts e).one ∈ ks.map (·.1) ∧ (tieAt ts e).other ∈ ks.map (·.1) := fun e he => by
        have he := List.mem_filter.mp he
        rw [Bool.and_eq_true, decide_eq_true_iff, decide_eq_true_iff] at he
        exact he
      refine lc_list (xs := (knownF ts ks es).map V.int) (fun j H' => H' Y = some (.lst ((((knownF ts ks es).take j).filter fun e => brkF (cOf ks) (tieAt ts e)).map V.int)) ∧ Same H1 H') ⟨upd_same, same_new nY⟩ (fun j H' _ h => SqL.of (h.2 _ _ hZ)) ?_ ?_
      · rintro j x H2 ej ⟨hY, s2⟩
        obtain ⟨e, ee, rfl⟩ := ints_at ej
        obtain ⟨em, i1, i2⟩ := inK e (List.mem_of_getElem? ee)
        have e01 := er e em
        obtain ⟨c, ec, hc⟩ := web_at hp e01.1 e01.2
        have s12 := s1.trans s2
        have l1 := filter_take_len (fun e => brkF (cOf ks) (tieAt ts e)) (knownF ts ks es) j
        refine ⟨rfl, .ref a, rfl, .ref wa, rfl, wa, _, 1, .ref wb, rfl, rfl, SqT.of (s12 _ _ hwa), rfl, .int e, rfl, wb, us, e, .ref c, rfl, rfl, SqT.of (s12 _ _ hwb), ec, a, c, ks, tieAt ts e, _, _, rfl, s12 _ _ ha, nd, cOf_in nd rfl i1, cOf_in nd rfl i2, s12 _ _ hc, _, rfl, ?_⟩
        rw [filter_snoc _ ee]
        show if brkF (cOf ks) (tieAt ts e) = true then _ else _
        cases hb : brkF (cOf ks) (tieAt ts e) with
        | true =>
          rw [if_pos rfl, if_pos rfl]
          refine ⟨.int e, rfl, _, hY, by rw [List.length_map]; exact small1000 (by omega), ?_, fun b o e => by rw [upd_ne (ne_of_none e nY)]; exact s2 b o e⟩
          rw [upd_same, List.map_append]
          rfl
        | false =>
          rw [if_neg Bool.false_ne_true, if_neg Bool.false_ne_true, List.append_nil]
          exact ⟨hY, s2⟩
      · rintro H2 ⟨hY, s2⟩
        rw [List.length_map, List.take_length] at hY
        exact q Y H2 (s1.trans s2) nY0 hY
end
/-! ### papers of the mends: a row of a ring -/
def rowPlaces (f : Int) (t : Tie) : List Int := if f = t.one ∨ f = t.other then [t.one, t.other] else [t.one, f, t.other]
def rowSure (m : Nat) (P : List Int) (f : Int) (ps : List Int) : List Int := (ps.filter fun p => decide (p ≠ f)).map fun p => (m : Int) + (P.idxOf p : Nat) - 1
theorem rowSure_snoc (m : Nat) (P : List Int) (f : Int) (ps : List Int) (p : Int) : rowSure m P f (ps ++ [p]) = rowSure m P f ps ++ (if p ≠ f then [(m : Int) + (P.idxOf p : Nat) - 1] else []) := by
  unfold rowSure
  rw [List.filter_append, List.map_append]
  congr 1
  by_cases h : p = f
  · rw [if_neg (fun z => z h), List.filter_cons_of_neg (by simp [h])]
    rfl
  · rw [if_pos h, List.filter_cons_of_pos (by simp [h])]
    rfl
def RingR (H : Hp) (ts : List Tie) (g : Int → Int) (P : List Int) (v : V) (e : Int) : Prop := ∃ a b c d, v = .ref a ∧ H a = some (.tup [.ref b, .int (2 * g e)]) ∧ H b = some (.tup [.ref c, .ref d]) ∧ H c = some (.tup ((rowPlaces (P.headD 0) (tieAt ts e)).map V.int)) ∧
  H d = some (.tup ((rowSure ts.length P (P.headD 0) [(tieAt ts e).one, (tieAt ts e).other] ++ [e]).map V.int))
theorem RingR.tk {H H' : Hp} (k : Tk H H') {ts : List Tie} {g : Int → Int} {P : List Int} {v : V} {e : Int} (h : RingR H ts g P v e) : RingR H' ts g P v e := by
  obtain ⟨a, b, c, d, ev, h1, h2, h3, h4⟩ := h
  exact ⟨a, b, c, d, ev, k _ _ h1, k _ _ h2, k _ _ h3, k _ _ h4⟩
def spRingRow41 : Sp := fun vs H Q _ => ∃ (wv gv : V) (p : Addr) (n : Int) (ts : List Tie) (g : Int → Int) (P : List Int) (e : Int), vs = [wv, gv, .ref p, .int e] ∧ WebAt H wv n ts ∧ WebOk n ts ∧ Wts H gv [e] g ∧ NoD H p (P.map V.int) ∧ P ≠ [] ∧ P.length ≤ 40 ∧ (0 ≤ e ∧ e < (ts.length : Int)) ∧ (tieAt ts e).one ∈ P ∧ (tieAt ts e).other ∈ P ∧
  ∀ v H', Same H H' → RingR H' ts g P v e → Q v H'
theorem idx_at {P : List Int} {p : Int} (h : p ∈ P) : P[P.idxOf p]? = some p ∧ ∀ m, m < P.idxOf p → P[m]? ≠ some p := by
  have hl := List.idxOf_lt_length_iff.mpr h
  refine ⟨?_, fun m hm e => ?_⟩
  · rw [List.getElem?_eq_getElem hl, List.getElem_idxOf hl]
  · obtain ⟨hm2, e⟩ := List.getElem?_eq_some_iff.mp e
    have h0 := List.not_of_lt_findIdx (p := fun x => x == p) (xs := P) (i := m) hm
    rw [e] at h0
    simp at h0
section
variable {P : Program} {w : World} {K : PySem.W.Frag} {mg : Str → Option Value} {base : Heap}
set_option maxHeartbeats 4000000 in
theorem ok_ring_row {f : Addr} {fd : FuncData} (F : Fun K "ring_row" "ring_row" s_ring_row f fd) (M : Free mg) (D_weight_of : Df P w K mg base 1 "weight_of" ["weights", "tie"] spWeightOf) : FnOk P w K mg base CX0 2 f fd ["web", "weights", "part", "tie"] spRingRow41 := by
  obtain ⟨f_weight_of, fd_weight_of, G_weight_of, g_weight_of, k_weight_of, b_weight_of⟩ := D_weight_of
  refine F.ok sc_ring_row (fun vs H Q E h => ?_) (fun cdv A outer s H vs Q E hr h => ?_)
  · obtain ⟨wv, gv, p, n, ts, g, P, e, rfl, _⟩ := h
    rfl
  · obtain ⟨wv, gv, p, n, ts, g, P, e, rfl, ⟨wa, wb, us, rfl, hwa, hwb, hp⟩, ok, hw, hpp, pne, p40, er, i1, i2, q⟩ := h
    refine ⟨_, (pss_cons (ps_asg (pe_ix ix_tup (pe_ix ix_tup (pv 0) pe_int (fun _ _ => rfl)) (pv 3) (fun _ _ => rfl)) (pg_tup rfl (pgs_cons (pg_name (i := 4) sc_ring_row.nd rfl (.inl rfl)) (pgs_cons (pg_name (i := 5) sc_ring_row.nd rfl (.inl rfl)) (pgs_cons (pg_name (i := 6) sc_ring_row.nd rfl (.inl rfl)) pgs_nil)))))
      (pss_cons (ps_set (i := 7) sc_ring_row.nd rfl (.inr rfl) (pe_ix ix_tup (pv 2) pe_int (fun _ _ => rfl)))
      (Evl.pss_cut (ps_set (i := 8) sc_ring_row.nd rfl (.inl rfl) (pe_ifExp (pt_cmpR op_in_seq (pv 7) (pe_tup (pa_cons (pv 4) (pa_cons (pv 5) pa_nil))) rfl) (pe_tup (pa_cons (pv 4) (pa_cons (pv 5) pa_nil))) (pe_tup (pa_cons (pv 4) (pa_cons (pv 7) (pa_cons (pv 5) pa_nil))))))
      (pss_cons (ps_setLc (i := 9) (own := [("place", 10)]) (g := (gName 10)) rfl sc_ring_row.nd rfl rfl (sw_true rfl rfl rfl (by decide +kernel)) (pi_tup (pe_tup (pa_cons (pv 4) (pa_cons (pv 5) pa_nil)))) (blkOk_by (N := N_ring_row) (sc := defScope s_ring_row) (own := [("place", 10)]) (by decide +kernel)) (fun _ _ _ _ _ => (pg_name (i := 10) sc_ring_row.nd rfl (.inl rfl))) (fun _ _ _ _ _ => (pts_one (pt_cmpR op_ne (pv 10) (pv 7) (nomark _)))) (fun _ _ _ _ _ => (pe_op op_sub (pe_op op_add (pe_callB (r := rLen38 K) call_len_seq (by rfl) M.len PySem.boot_len (pa_cons (pe_ix (r := rIxT K) ix_tup (pv 0) pe_int (fun _ _ => rfl)) pa_nil)) (pe_bmT (r := rIdxT K) PySem.F.slot_tuple_index PySem.F.type_tuple_index mt_tidx (pv 2) (pa_cons (pv 10) pa_nil))) pe_int)))
      (pss_one (ps_ret (pe_tup (pa_cons (pe_tup (pa_cons (pv 8) (pa_cons (pe_tup (StX.pa_star (pv 9) (pa_cons (pv 3) pa_nil))) pa_nil))) (pa_cons (pe_op op_mul pe_int (pe_call G_weight_of (hr.mono (by decide)) (by rfl) g_weight_of k_weight_of b_weight_of .nil pass0 (pa_cons (pv 1) (pa_cons (pv 3) pa_nil)))) pa_nil))))))))), ?_⟩
    have lus : us.length = ts.length := Paired.length hp
    have few := ok.few
    obtain ⟨c, ec, hc⟩ := web_at hp er.1 er.2
    obtain ⟨p0, P', eP⟩ := List.exists_cons_of_ne_nil pne
    have e0 : P.headD 0 = p0 := by rw [eP]; rfl
    refine ⟨.ref wa, rfl, wa, _, 1, .ref wb, rfl, rfl, SqT.of hwa, rfl, .int e, rfl, wb, us, e, .ref c, rfl, rfl, SqT.of hwb, ec, c, _, rfl, SqT.of hc, rfl, _, _, rfl, _, _, rfl, _, _, rfl, rfl, ?_⟩
    refine ⟨.ref p, rfl, p, _, 0, .int p0, rfl, rfl, hpp.sq, by rw [eP, List.map_cons]; exact atI_nat (j := 0) rfl, ?_⟩
    unfold RingR at q
    rw [e0] at q
    generalize tieAt ts e = t at hc i1 i2 q
    refine ⟨fun σ' H' => ∃ pl : Addr, σ' = [some (.ref wa), some gv, some (.ref p), some (.int e), some (.int t.one), some (.int t.other), some (.str (kindS t.foe)), some (.int p0), some (.ref pl), none, none] ∧ Same H H' ∧ H' pl = some (.tup ((rowPlaces p0 t).map V.int)), ?_, ?_⟩
    · refine ⟨.int p0, rfl, .int t.one, rfl, .int t.other, rfl, by show 2 ≤ sizeLine; decide, fun x nx => ⟨x, _, rfl, .inr (SqT.of upd_same), rfl, flat_ints [t.one, t.other], _, rfl, ?_⟩⟩
      have sx := same_new (o := .tup [V.int t.one, .int t.other]) nx
      rw [show inV (V.int p0) [V.int t.one, .int t.other] = [t.one, t.other].contains p0 from in_ints p0 [t.one, t.other]]
      by_cases h : p0 = t.one ∨ p0 = t.other
      · rw [show [t.one, t.other].contains p0 = true from List.contains_iff_mem.mpr (by simpa using h)]
        refine ⟨.int t.one, rfl, .int t.other, rfl, by show 2 ≤ sizeLine; decide, fun pl npl => ⟨pl, rfl, sx.trans (same_new npl), ?_⟩⟩
        rw [upd_same]
        unfold rowPlaces
        rw [if_pos h]
        rfl
      · rw [show [t.one, t.other].contains p0 = false from by
          rw [Bool.eq_false_iff]
          intro z
          exact h (by simpa using List.contains_iff_mem.mp z)]
        refine ⟨.int t.one, rfl, .int p0, rfl, .int t.other, rfl, by show 3 ≤ sizeLine; decide, fun pl npl => ⟨pl, rfl, sx.trans (same_new npl), ?_⟩⟩
        rw [upd_same]
        unfold rowPlaces
        rw [if_neg h]
        rfl
    rintro σ' H1 ⟨pl, rfl, s1, hpl⟩
    refine ⟨.int t.one, rfl, .int t.other, rfl, by show 2 ≤ sizeLine; decide, fun x nx => ?_⟩
    have s2 := s1.trans (same_new (o := .tup [V.int t.one, .int t.other]) nx)
    have hpl2 := same_new (o := .tup [V.int t.one, .int t.other]) nx _ _ hpl
    have hx := upd_same (H := H1) (a := x) (o := .tup [V.int t.one, .int t.other])
    generalize upd H1 x (.tup [V.int t.one, .int t.other]) = H2 at s2 hpl2 hx
    refine ⟨x, rfl, ⟨_, SqT.of hx⟩, fun Z nZ => ?_⟩
    refine lc_tup (xs := [t.one, t.other].map V.int) (fun j H' => H' Z = some (.lst ((rowSure ts.length P p0 ([t.one, t.other].take j)).map V.int)) ∧ (rowSure ts.length P p0 ([t.one, t.other].take j)).length ≤ j ∧ Same H2 H') ⟨upd_same, Nat.le_refl _, same_new nZ⟩ (fun j H' _ h => SqT.of (h.2.2 _ _ hx)) ?_ ?_
    · rintro j y H3 ej ⟨hZ, lz, s3⟩
      obtain ⟨z, ez, rfl⟩ := ints_at ej
      have s03 := s2.trans s3
      have zP : z ∈ P := by
        have := List.mem_of_getElem? ez
        simp only [List.mem_cons, List.not_mem_nil, or_false] at this
        rcases this with h | h
        · rw [h]; exact i1
        · rw [h]; exact i2
      have et : [t.one, t.other].take (j + 1) = [t.one, t.other].take j ++ [z] := by rw [List.take_add_one, ez]; rfl
      have jl := (List.getElem?_eq_some_iff.mp ez).1
      refine ⟨rfl, .int z, rfl, .int p0, rfl, rfl, _, rfl, ?_⟩
      rw [dec_intF, et, rowSure_snoc]
      by_cases h : z = p0
      · rw [decide_eq_true h, if_neg (fun y => y h), List.append_nil]
        exact ⟨hZ, by omega, s3⟩
      · rw [decide_eq_false h, if_pos h]
        obtain ⟨g1, g2⟩ := idx_at zP
        have hp3 := hpp.same s03
        refine ⟨.ref wa, rfl, wa, _, 1, .ref wb, rfl, rfl, SqT.of (s03 _ _ hwa), rfl, wb, us, rfl, .inr (SqT.of (s03 _ _ hwb)), .ref p, rfl, ⟨p, _, rfl, hp3⟩, .int z, rfl, p, P, z, P.idxOf z, rfl, rfl, hp3.sq, g1, g2, _, _, rfl, rfl, _, 1, rfl, rfl, _, hZ, by rw [List.length_map]; exact small1000 (by have : [t.one, t.other].length = 2 := rfl; omega), ?_, by rw [List.length_append]; show _ + 1 ≤ j + 1; omega, fun b o e => by rw [upd_ne (ne_of_none e nZ)]; exact s3 b o e⟩
        rw [upd_same, List.map_append, lus]
        rfl
    · rintro H3 ⟨hZ, lz, s3⟩
      have hZ : H3 Z = some (.lst ((rowSure ts.length P p0 [t.one, t.other]).map V.int)) := hZ
      have lz : (rowSure ts.length P p0 [t.one, t.other]).length ≤ 2 := lz
      have s03 := s2.trans s3
      refine ⟨.ref pl, rfl, .ref Z, rfl, Z, _, rfl, .inr (SqL.of hZ), .int e, rfl, ?_, fun d nd => ?_⟩
      · rw [List.length_append, List.length_map]
        have e : sizeLine = 16777216 := by decide
        show _ + 1 ≤ sizeLine
        omega
      have s4 := s03.trans (same_new (o := .tup ((rowSure ts.length P p0 [t.one, t.other]).map V.int ++ [.int e])) nd)
      have hpl4 := same_new (o := .tup ((rowSure ts.length P p0 [t.one, t.other]).map V.int ++ [.int e])) nd _ _ (s3 _ _ hpl2)
      have hd4 := upd_same (H := H3) (a := d) (o := .tup ((rowSure ts.length P p0 [t.one, t.other]).map V.int ++ [.int e]))
      generalize upd H3 d (.tup ((rowSure ts.length P p0 [t.one, t.other]).map V.int ++ [.int e])) = H4 at s4 hpl4 hd4
      refine ⟨by show 2 ≤ sizeLine; decide, fun b nb => ?_⟩
      have s5 := s4.trans (same_new (o := .tup [.ref pl, .ref d]) nb)
      have hpl5 := same_new (o := .tup [.ref pl, .ref d]) nb _ _ hpl4
      have hd5 := same_new (o := .tup [.ref pl, .ref d]) nb _ _ hd4
      have hb5 := upd_same (H := H4) (a := b) (o := .tup [.ref pl, .ref d])
      generalize upd H4 b (.tup [.ref pl, .ref d]) = H5 at s5 hpl5 hd5 hb5
      have fin : ∀ y : Int, y = g e → ∀ a, H5 a = none → Q (.ref a) (upd H5 a (.tup [.ref b, .int (2 * y)])) := fun y ey a na => by
        subst ey
        have sa := same_new (o := .tup [.ref b, .int (2 * g e)]) na
        refine q (.ref a) _ (s5.trans sa) ⟨a, b, pl, d, rfl, upd_same, sa _ _ hb5, sa _ _ hpl5, ?_⟩
        rw [List.map_append]
        exact sa _ _ hd5
      rcases hw with ⟨rfl, h1⟩ | ⟨wt, ws, rfl, h1, h2⟩
      · refine ⟨.non, rfl, .int e, rfl, .inl ⟨e, rfl, ?_⟩⟩
        exact ⟨2, 1, rfl, rfl, .inl ⟨by decide, by decide⟩, by show 2 ≤ sizeLine; decide, fin 1 (h1 e (List.mem_singleton.mpr rfl)).symm⟩
      · obtain ⟨⟨b0, b1⟩, ew⟩ := h2 e (List.mem_singleton.mpr rfl)
        refine ⟨.ref wt, rfl, .int e, rfl, .inr ⟨wt, _, e, _, rfl, s5 _ _ h1, gW_at b0 b1, ?_⟩⟩
        exact ⟨2, gW ws e, rfl, rfl, .inl ⟨by decide, by decide⟩, by show 2 ≤ sizeLine; decide, fin _ ew.symm⟩
end
/-! ### papers of the mends: the paper of a part -/
/-- the paper of a part where the sides ks are known: rings, where what is known to be broken weighs as much as the least; else a case of the next place -/
def PPV (H : Hp) (ts : List Tie) (g : Int → Int) (P es : List Int) (least : Int) : Nat → V → List Nb → Prop
  | d, v, ks => (least ≤ sumW g (kbF ts ks es) ∧ ∃ a r rows, v = .ref a ∧ H a = some (.tup [.str "rings", .ref r]) ∧ H r = some (.tup rows) ∧ Paired (RingR H ts g P) rows (kbF ts ks es)) ∨
    (¬ least ≤ sumW g (kbF ts ks es) ∧ match d with
      | 0 => False
      | d + 1 => ∃ a t1 t2 pl, v = .ref a ∧ P[ks.length]? = some pl ∧ H a = some (.tup [.str "case", .int (P.headD 0), .int pl, t1, t2]) ∧ PPV H ts g P es least d t1 (ks ++ [(pl, false)]) ∧ PPV H ts g P es least d t2 (ks ++ [(pl, true)]))
theorem PPV.tk {H H' : Hp} (k : Tk H H') {ts : List Tie} {g : Int → Int} {P es : List Int} {least : Int} : ∀ {d : Nat} {v : V} {ks : List Nb}, PPV H ts g P es least d v ks → PPV H' ts g P es least d v ks := by
  intro d
  induction d with
  | zero =>
    intro v ks h
    unfold PPV at h ⊢
    rcases h with ⟨h1, a, r, rows, e, h2, h3, h4⟩ | ⟨_, h⟩
    · exact .inl ⟨h1, a, r, rows, e, k _ _ h2, k _ _ h3, Paired.mono (fun _ _ x => x.tk k) h4⟩
    · exact h.elim
  | succ d ih =>
    intro v ks h
    unfold PPV at h ⊢
    rcases h with ⟨h1, a, r, rows, e, h2, h3, h4⟩ | ⟨h0, a, t1, t2, pl, e, h1, h2, h3, h4⟩
    · exact .inl ⟨h1, a, r, rows, e, k _ _ h2, k _ _ h3, Paired.mono (fun _ _ x => x.tk k) h4⟩
    · exact .inr ⟨h0, a, t1, t2, pl, e, h1, k _ _ h2, ih h3, ih h4⟩
/-- where all places are known, what is broken is what a colouring breaks -/
theorem kb_all {ts : List Tie} {ks : List Nb} {es P : List Int} (e : ks.map (·.1) = P) (cl : ∀ e ∈ es, (tieAt ts e).one ∈ P ∧ (tieAt ts e).other ∈ P) : kbF ts ks es = badF ts (cOf ks) es := by
  unfold kbF
  have : knownF ts ks es = es := by
    unfold knownF
    refine List.filter_eq_self.mpr fun x hx => ?_
    rw [e, decide_eq_true (cl x hx).1, decide_eq_true (cl x hx).2]
    rfl
  rw [this]
  rfl
def spPart (Ps : List Addr) (n0 : Nat) : Sp := fun vs H Q _ => ∃ (wv gv : V) (p t row a : Addr) (n : Nat) (ts : List Tie) (g : Int → Int) (P : List Int) (x : WL) (ks : List Nb), vs = [wv, gv, .ref row, .int x.1, .ref a] ∧ WebAt H wv n ts ∧ WebOk n ts ∧ P ∈ partsTo ts n n ∧ P.length ≤ 8 ∧ Wts H gv (tiesIn ts P) g ∧ NoD H p (P.map V.int) ∧ H t = some (.tup ((tiesIn ts P).map V.int)) ∧ H row = some (.tup [.ref p, .ref t]) ∧
  LexMin ts g (tiesIn ts P) x ∧ H a = some (.dK (kvOf ks)) ∧ ks.map (·.1) = P.take ks.length ∧ ks.length + n0 = P.length ∧ Tabs Ps H ∧ ∀ v H', Kt Ps H H' → PPV H' ts g P (tiesIn ts P) x.1 n0 v ks → Q v H'
/-- what the next call promises -/
def spPartR (Ps : List Addr) : Nat → Sp
  | 0 => fun _ _ _ _ => False
  | d + 1 => spPart Ps d
theorem star_same {H : Hp} {q r : Addr} {A B C : List (Key × V)} (nq : H q = none) (nr : (upd (upd H q (.dK [])) q (.dK A)) r = none) : Same H (upd (upd (upd (upd (upd H q (.dK [])) q (.dK A)) r (.dK [])) r (.dK B)) q (.dK C)) := fun b o e => by
  have qr : q ≠ r := fun z => by rw [z, upd_same] at nr; cases nr
  have nr0 : H r = none := by
    rw [upd_ne (Ne.symm qr), upd_ne (Ne.symm qr)] at nr
    exact nr
  rw [upd_ne (ne_of_none e nq), upd_ne (ne_of_none e nr0), upd_ne (ne_of_none e nr0), upd_ne (ne_of_none e nq), upd_ne (ne_of_none e nq)]
  exact e
section
variable {P : Program} {w : World} {K : PySem.W.Frag} {mg : Str → Option Value} {base : Heap}
set_option maxHeartbeats 8000000 in
theorem part_paper_step {f : Addr} {fd : FuncData} {Ps : List Addr} (d : Nat) (F : Fun K "part_paper" "part_paper" s_part_paper f fd) (M : Free mg) (g_part_paper : mg "part_paper" = some (.ref f)) (b_part_paper : L2.Binds K fd ["web", "weights", "row", "least", "sides"] []) (G_part_paper : FnOk P w K mg base CX0 (4 + d) f fd ["web", "weights", "row", "least", "sides"] (spPartR Ps d)) (D_known_broken : Df P w K mg base 2 "known_broken" ["web", "ties", "sides"] spKnown) (D_mend_weight : Df P w K mg base 3 "mend_weight" ["weights", "ties"] (spMend Ps)) (D_ring_row : Df P w K mg base 2 "ring_row" ["web", "weights", "part", "tie"] spRingRow41) : FnOk P w K mg base CX0 (5 + d) f fd ["web", "weights", "row", "least", "sides"] (spPart Ps d) := by
  obtain ⟨f_known_broken, fd_known_broken, G_known_broken, g_known_broken, k_known_broken, b_known_broken⟩ := D_known_broken
  obtain ⟨f_mend_weight, fd_mend_weight, G_mend_weight, g_mend_weight, k_mend_weight, b_mend_weight⟩ := D_mend_weight
  obtain ⟨f_ring_row, fd_ring_row, G_ring_row, g_ring_row, k_ring_row, b_ring_row⟩ := D_ring_row
  have k_part_paper := F.kp
  rw [show 5 + d = (4 + d) + 1 from by omega]
  refine F.ok sc_part_paper (fun vs H Q E h => ?_) (fun cdv A outer s H vs Q E hr h => ?_)
  · obtain ⟨wv, gv, p, t, row, a, n, ts, g, P, x, ks, rfl, _⟩ := h
    rfl
  · obtain ⟨wv, gv, p, t, row, a, n, ts, g, P, x, ks, rfl, hW, ok, hPm, l8, hw, hp, ht, hrow, lex, ha, ek, el, hT, q⟩ := h
    have hu := room1 hr
    refine ⟨_, (pss_cons (ps_asg (pv 2) (pg_tup rfl (pgs_cons (pg_name (i := 5) sc_part_paper.nd rfl (.inr rfl)) (pgs_cons (pg_name (i := 6) sc_part_paper.nd rfl (.inl rfl)) pgs_nil))))
      (pss_cons (ps_set (i := 7) sc_part_paper.nd rfl (.inl rfl) (pe_call G_known_broken (hr.mono (by omega)) (by rfl) g_known_broken k_known_broken b_known_broken .nil pass0 (pa_cons (pv 0) (pa_cons (pv 6) (pa_cons (pv 4) pa_nil)))))
      (pss_cons (ps_if (pt_cmpR op_ge (pe_call G_mend_weight (hr.mono (by omega)) (by rfl) g_mend_weight k_mend_weight b_mend_weight .nil pass0 (pa_cons (pv 1) (pa_cons (pv 7) pa_nil))) (pv 3) (nomark _))
        (pss_one (ps_ret (pe_tup (pa_cons pe_str (pa_cons (pe_callTy call_tuple_of (by rfl) M.tuple (by decide +kernel) (pa_cons (pe_lc (own := [("tie", 8)]) (g := gName 8) (tt := tYes) rfl sc_part_paper.nd (pi_list (pv 7)) (blkOk_by (N := N_part_paper) (sc := defScope s_part_paper) (own := [("tie", 8)]) (by decide +kernel)) (fun _ _ _ _ _ => (pg_name (i := 8) sc_part_paper.nd rfl (.inl rfl))) (fun _ _ _ _ _ => pts_nil) (fun _ _ _ _ _ => (pe_call G_ring_row (hr.mono (by omega)) (by rfl) g_ring_row k_ring_row b_ring_row .nil pass0 (pa_cons (pv 0) (pa_cons (pv 1) (pa_cons (pv 5) (pa_cons (pv 8) pa_nil))))))) pa_nil)) pa_nil)))))
        pss_nil)
      (pss_cons (ps_set (i := 9) sc_part_paper.nd rfl (.inl rfl) (pe_ix ix_tup (pv 5) (pe_callB call_lenD (by rfl) M.len PySem.boot_len (pa_cons (pv 4) pa_nil)) (fun _ _ => rfl)))
      (pss_cons (ps_set (i := 10) sc_part_paper.nd rfl (.inl rfl) (pe_call G_part_paper (hr.mono (by omega)) (by rfl) g_part_paper k_part_paper b_part_paper .nil pass0 (pa_cons (pv 0) (pa_cons (pv 1) (pa_cons (pv 2) (pa_cons (pv 3) (pa_cons (pe_dstar (pv 4) (pv 9) pe_int) pa_nil)))))))
      (pss_cons (ps_set (i := 11) sc_part_paper.nd rfl (.inl rfl) (pe_call G_part_paper (hr.mono (by omega)) (by rfl) g_part_paper k_part_paper b_part_paper .nil pass0 (pa_cons (pv 0) (pa_cons (pv 1) (pa_cons (pv 2) (pa_cons (pv 3) (pa_cons (pe_dstar (pv 4) (pv 9) pe_int) pa_nil)))))))
      (pss_one (ps_ret (pe_tup (pa_cons pe_str (pa_cons (pe_ix ix_tup (pv 5) pe_int (fun _ _ => rfl)) (pa_cons (pv 9) (pa_cons (pv 10) (pa_cons (pv 11) pa_nil)))))))))))))), ?_⟩
    have pt := parts_of_web ok.ok
    have cl := tiesIn_cl pt hPm
    have nd : P.Nodup := (part_pw hPm).imp fun {a b} h => by omega
    have ndk : (ks.map (·.1)).Nodup := by rw [ek]; exact nd.sublist (List.take_sublist _ _)
    have few := ok.few
    have lt := tiesIn_len ts P
    obtain ⟨p0, P', eP⟩ := List.exists_cons_of_ne_nil (part_ne hPm)
    have e0 : P.headD 0 = p0 := by rw [eP]; rfl
    refine ⟨.ref row, rfl, row, _, rfl, SqT.of hrow, rfl, _, _, rfl, _, _, rfl, rfl, ?_⟩
    refine ⟨wv, rfl, .ref t, rfl, .ref a, rfl, wv, t, a, n, ts, ks, tiesIn ts P, rfl, hW, ok, ht, fun e he => (tiesIn_mem.mp he).1, by omega, ha, ndk, fun B H1 s1 nB hB => ?_⟩
    have k1 := Kt.same hT s1
    have T1 := k1.tab
    have kbs : ∀ e ∈ kbF ts ks (tiesIn ts P), e ∈ tiesIn ts P := fun e he => (List.mem_filter.mp (List.mem_filter.mp he).1).1
    refine ⟨gv, rfl, .ref B, rfl, gv, B, kbF ts ks (tiesIn ts P), g, rfl, .inr hB, (hw.tk (Same.tk s1)).sub kbs, T1, fun H2 k12 => ?_⟩
    have k2 := k1.trans k12
    have T2 := k2.tab
    have tk2 := k2.tk hT
    refine ⟨.int x.1, rfl, _, _, rfl, rfl, _, rfl, ?_⟩
    by_cases hle : x.1 ≤ sumW g (kbF ts ks (tiesIn ts P))
    · rw [decide_eq_true hle]
      have hB2 := k12.lst T1 hB
      refine ⟨.ref B, rfl, B, rfl, ⟨_, SqL.of hB2⟩, fun Z nZ => ?_⟩
      have l120 : (kbF ts ks (tiesIn ts P)).length ≤ 120 := by
        unfold kbF knownF
        have h1 := List.length_filter_le (fun e => brkF (cOf ks) (tieAt ts e)) ((tiesIn ts P).filter fun e => decide ((tieAt ts e).one ∈ ks.map (·.1)) && decide ((tieAt ts e).other ∈ ks.map (·.1)))
        have h2 := List.length_filter_le (fun e => decide ((tieAt ts e).one ∈ ks.map (·.1)) && decide ((tieAt ts e).other ∈ ks.map (·.1))) (tiesIn ts P)
        omega
      generalize hkb : kbF ts ks (tiesIn ts P) = kb at hB2 l120 kbs hle
      refine lc_list (xs := kb.map V.int) (fun j H' => ∃ vs, H' Z = some (.lst vs) ∧ Paired (RingR H' ts g P) vs (kb.take j) ∧ Same H2 H') ⟨[], upd_same, .nil, same_new nZ⟩ (fun j H' _ h => by
        obtain ⟨_, _, _, h⟩ := h
        exact SqL.of (h _ _ hB2)) ?_ ?_
      · rintro j y H3 ej ⟨vs, hZ, hv, s3⟩
        obtain ⟨e, ee, rfl⟩ := ints_at ej
        have em := kbs e (List.mem_of_getElem? ee)
        have jl := (List.getElem?_eq_some_iff.mp ee).1
        have tk3 := tk2.trans (Same.tk s3)
        have lv := Paired.length hv
        rw [List.length_take] at lv
        refine ⟨rfl, wv, rfl, gv, rfl, .ref p, rfl, .int e, rfl, wv, gv, p, n, ts, g, P, e, rfl, hW.tk tk3, ok, (hw.tk tk3).sub (fun z hz => by rw [List.mem_singleton.mp hz]; exact em), hp.tk tk3, part_ne hPm, by omega, (tiesIn_mem.mp em).1, (cl e em).1, (cl e em).2, fun v H4 s4 hv4 => ?_⟩
        have hZ4 := s4 _ _ hZ
        have tkL := tk_lst (ys := vs ++ [v]) hZ4
        refine ⟨vs, hZ4, small1000 (by omega), vs ++ [v], upd_same, ?_, fun b o e => by rw [upd_ne (ne_of_none e nZ)]; exact s4 _ _ (s3 b o e)⟩
        rw [List.take_add_one, ee]
        exact Paired.snoc (Paired.mono (fun _ _ x => (x.tk (Same.tk s4)).tk tkL) hv) (hv4.tk tkL)
      · rintro H3 ⟨vs, hZ, hv, s3⟩
        rw [List.length_map, List.take_length] at hv
        refine ⟨Z, _, rfl, .inl ⟨SqL.of hZ, fun r nr => ⟨by show 2 ≤ sizeLine; decide, fun o no => ?_⟩⟩⟩
        have s4 := same_new (o := .tup vs) nr
        have s5 := same_new (o := .tup [.str "rings", .ref r]) no
        have s35 := s3.trans (s4.trans s5)
        refine q (.ref o) _ (k2.trans (Kt.same T2 s35)) ?_
        unfold PPV
        rw [hkb]
        exact .inl ⟨hle, o, r, vs, rfl, upd_same, s5 _ _ upd_same, Paired.mono (fun _ _ x => x.tk (Same.tk (s4.trans s5))) hv⟩
    · rw [decide_eq_false hle]
      cases d with
      | zero =>
        have el0 : ks.length = P.length := by omega
        rw [el0, List.take_length] at ek
        rw [kb_all ek cl] at hle
        exact (hle (lex.val.le (cOf ks))).elim
      | succ d =>
        have kl : ks.length < P.length := by omega
        obtain ⟨pl, epl⟩ : ∃ pl, P[ks.length]? = some pl := ⟨_, List.getElem?_eq_getElem kl⟩
        have etk : P.take (ks.length + 1) = P.take ks.length ++ [pl] := by rw [List.take_add_one, epl]; rfl
        have npl : pl ∉ ks.map (·.1) := by
          rw [ek]
          have h1 := nd.sublist (List.take_sublist (ks.length + 1) P)
          rw [etk, List.nodup_append] at h1
          exact fun z => h1.2.2 pl z pl (by simp) rfl
        have em : mergeK [] (kvOf ks) = kvOf ks := kvOf_merge ks [] ndk
        have lk : (kvOf ks).length ≤ 8 := by rw [kvOf_len]; omega
        have ha2 := k2.dct hT ha
        have ek' : ∀ b : Bool, (ks ++ [(pl, b)]).map (·.1) = P.take (ks ++ [(pl, b)]).length := fun b => by
          rw [List.map_append, ek, List.length_append]
          show _ = P.take (ks.length + 1)
          rw [etk]
          rfl
        refine ⟨.ref p, rfl, .ref a, rfl, a, _, rfl, ha2, p, _, _, .int pl, rfl, rfl, (hp.tk tk2).sq, by rw [kvOf_len]; exact atI_nat (by rw [List.getElem?_map, epl]; rfl), ?_⟩
        refine ⟨wv, rfl, gv, rfl, .ref row, rfl, .int x.1, rfl, fun o no => ⟨.ref a, rfl, a, kvOf ks, rfl, same_new no _ _ ha2, (fun z => by rw [z, no] at ha2; cases ha2), upd_same, by omega, fun r nr => ?_⟩⟩
        have sr := star_same (B := [(Sum.inl pl, V.int 0)]) (C := kvOf (ks ++ [(pl, false)])) no nr
        have dr : o ≠ r := fun z => by rw [z, upd_same] at nr; cases nr
        refine ⟨.int pl, rfl, Sum.inl pl, kvOf ks, rfl, by rw [upd_ne dr, em]; exact upd_same, by omega, upd_same, dr, ?_⟩
        rw [show putK (kvOf ks) (Sum.inl pl) (V.int 0) = kvOf (ks ++ [(pl, false)]) from kvOf_put (b := false) npl]
        have ho := upd_same (H := upd (upd (upd (upd H2 o (.dK [])) o (.dK (mergeK [] (kvOf ks)))) r (.dK [])) r (.dK [(Sum.inl pl, V.int 0)])) (a := o) (o := .dK (kvOf (ks ++ [(pl, false)])))
        generalize upd (upd (upd (upd (upd H2 o (.dK [])) o (.dK (mergeK [] (kvOf ks)))) r (.dK [])) r (.dK [(Sum.inl pl, V.int 0)])) o (.dK (kvOf (ks ++ [(pl, false)]))) = H3 at sr ho
        have k3 := k2.trans (Kt.same T2 sr)
        have T3 := k3.tab
        have tk3 := k3.tk hT
        refine ⟨wv, gv, p, t, row, o, n, ts, g, P, x, ks ++ [(pl, false)], rfl, hW.tk tk3, ok, hPm, l8, hw.tk tk3, hp.tk tk3, tk3 _ _ ht, tk3 _ _ hrow, lex, ho, ek' false, by rw [List.length_append]; show ks.length + 1 + d = P.length; omega, T3, fun v1 H4 k34 hv1 => ?_⟩
        have k4 := k3.trans k34
        have T4 := k4.tab
        have ha4 := k4.dct hT ha
        clear nr sr dr ho no
        refine ⟨wv, rfl, gv, rfl, .ref row, rfl, .int x.1, rfl, fun o no => ⟨.ref a, rfl, a, kvOf ks, rfl, same_new no _ _ ha4, (fun z => by rw [z, no] at ha4; cases ha4), upd_same, by omega, fun r nr => ?_⟩⟩
        have sr := star_same (B := [(Sum.inl pl, V.int 1)]) (C := kvOf (ks ++ [(pl, true)])) no nr
        have dr : o ≠ r := fun z => by rw [z, upd_same] at nr; cases nr
        refine ⟨.int pl, rfl, Sum.inl pl, kvOf ks, rfl, by rw [upd_ne dr, em]; exact upd_same, by omega, upd_same, dr, ?_⟩
        rw [show putK (kvOf ks) (Sum.inl pl) (V.int 1) = kvOf (ks ++ [(pl, true)]) from kvOf_put (b := true) npl]
        have ho := upd_same (H := upd (upd (upd (upd H4 o (.dK [])) o (.dK (mergeK [] (kvOf ks)))) r (.dK [])) r (.dK [(Sum.inl pl, V.int 1)])) (a := o) (o := .dK (kvOf (ks ++ [(pl, true)])))
        generalize upd (upd (upd (upd (upd H4 o (.dK [])) o (.dK (mergeK [] (kvOf ks)))) r (.dK [])) r (.dK [(Sum.inl pl, V.int 1)])) o (.dK (kvOf (ks ++ [(pl, true)]))) = H5 at sr ho
        have k5 := k4.trans (Kt.same T4 sr)
        have T5 := k5.tab
        have tk5 := k5.tk hT
        refine ⟨wv, gv, p, t, row, o, n, ts, g, P, x, ks ++ [(pl, true)], rfl, hW.tk tk5, ok, hPm, l8, hw.tk tk5, hp.tk tk5, tk5 _ _ ht, tk5 _ _ hrow, lex, ho, ek' true, by rw [List.length_append]; show ks.length + 1 + d = P.length; omega, T5, fun v2 H6 k56 hv2 => ?_⟩
        have k6 := k5.trans k56
        have T6 := k6.tab
        have hv1' := (hv1.tk (Same.tk sr)).tk (k56.tk T5)
        refine ⟨.ref p, rfl, p, _, 0, .int p0, rfl, rfl, (hp.tk (k6.tk hT)).sq, by rw [eP, List.map_cons]; exact atI_nat (j := 0) rfl, .int pl, rfl, v1, rfl, v2, rfl, by show 5 ≤ sizeLine; decide, fun y ny => ?_⟩
        have sy := same_new (o := .tup [.str "case", .int p0, .int pl, v1, v2]) ny
        refine q (.ref y) _ (k6.trans (Kt.same T6 sy)) ?_
        unfold PPV
        exact .inr ⟨hle, y, v1, v2, pl, rfl, epl, by rw [e0]; exact upd_same, hv1'.tk (Same.tk sy), hv2.tk (Same.tk sy)⟩
theorem ok_part_paper {f : Addr} {fd : FuncData} {Ps : List Addr} (F : Fun K "part_paper" "part_paper" s_part_paper f fd) (M : Free mg) (g_part_paper : mg "part_paper" = some (.ref f)) (b_part_paper : L2.Binds K fd ["web", "weights", "row", "least", "sides"] []) (D_known_broken : Df P w K mg base 2 "known_broken" ["web", "ties", "sides"] spKnown) (D_mend_weight : Df P w K mg base 3 "mend_weight" ["weights", "ties"] (spMend Ps)) (D_ring_row : Df P w K mg base 2 "ring_row" ["web", "weights", "part", "tie"] spRingRow41) : ∀ d, FnOk P w K mg base CX0 (5 + d) f fd ["web", "weights", "row", "least", "sides"] (spPart Ps d)
  | 0 => part_paper_step 0 F M g_part_paper b_part_paper ⟨fun vs H Q E h => h.elim, fun B out z H ar us vs Q E _ _ _ _ h => h.elim⟩ D_known_broken D_mend_weight D_ring_row
  | d + 1 => part_paper_step (d + 1) F M g_part_paper b_part_paper (by have h := ok_part_paper F M g_part_paper b_part_paper D_known_broken D_mend_weight D_ring_row d; rw [show 4 + (d + 1) = 5 + d from by omega]; exact h) D_known_broken D_mend_weight D_ring_row
end
/-! ### papers of the mends: the paper of a web -/
def spPartAny (Ps : List Addr) : Sp := fun vs H Q E => ∃ d, d ≤ 7 ∧ spPart Ps d vs H Q E
def RowPaper (H : Hp) (ts : List Tie) (g : Int → Int) (v : V) (P : List Int) : Prop := ∃ a t w x, v = .ref a ∧ H a = some (.tup [.ref t, w]) ∧ H t = some (.tup ((tiesIn ts P).map V.int)) ∧ LexMin ts g (tiesIn ts P) x ∧ PPV H ts g P (tiesIn ts P) x.1 (P.length - 1) w [(P.headD 0, false)]
theorem RowPaper.tk {H H' : Hp} (k : Tk H H') {ts : List Tie} {g : Int → Int} {v : V} {P : List Int} (h : RowPaper H ts g v P) : RowPaper H' ts g v P := by
  obtain ⟨a, t, w, x, e, h1, h2, h3, h4⟩ := h
  exact ⟨a, t, w, x, e, k _ _ h1, k _ _ h2, h3, h4.tk k⟩
def PaperOfV (H : Hp) (ts : List Tie) (n : Nat) (g : Int → Int) (v : V) : Prop := ∃ a r rows, v = .ref a ∧ H a = some (.tup [.str "split", .ref r]) ∧ H r = some (.tup rows) ∧ Paired (RowPaper H ts g) rows ((partsTo ts n n).filter (oddF ts))
theorem PaperOfV.tk {H H' : Hp} (k : Tk H H') {ts : List Tie} {n : Nat} {g : Int → Int} {v : V} (h : PaperOfV H ts n g v) : PaperOfV H' ts n g v := by
  obtain ⟨a, r, rows, e, h1, h2, h3⟩ := h
  exact ⟨a, r, rows, e, k _ _ h1, k _ _ h2, Paired.mono (fun _ _ x => x.tk k) h3⟩
def spPaperOf (Ps : List Addr) : Sp := fun vs H Q _ => ∃ (wv gv : V) (n : Nat) (ts : List Tie) (g : Int → Int), vs = [wv, gv] ∧ WebAt H wv n ts ∧ WebOk n ts ∧ (∀ P ∈ partsTo ts n n, oddF ts P = true → P.length ≤ 8) ∧ Wts H gv (rng ts.length) g ∧ Tabs Ps H ∧ ∀ v H', Kt Ps H H' → PaperOfV H' ts n g v → Q v H'
section
variable {P : Program} {w : World} {K : PySem.W.Frag} {mg : Str → Option Value} {base : Heap}
theorem ok_part_any {f : Addr} {fd : FuncData} {Ps : List Addr} (h : ∀ d, FnOk P w K mg base CX0 (5 + d) f fd ["web", "weights", "row", "least", "sides"] (spPart Ps d)) : FnOk P w K mg base CX0 12 f fd ["web", "weights", "row", "least", "sides"] (spPartAny Ps) :=
  ⟨fun vs H Q E ⟨d, hd, g⟩ => (h d).len vs H Q E g, fun A outer s H ar us vs Q E hr a2 a3 a4 ⟨d, hd, g⟩ => (h d).run A outer s H ar us vs Q E (hr.mono (by omega)) a2 a3 a4 g⟩
set_option maxHeartbeats 8000000 in
theorem ok_paper_of {f : Addr} {fd : FuncData} {Ps : List Addr} (F : FunD K "paper_of" "paper_of" (defArgs s_paper_of) (defBody s_paper_of) (defScope s_paper_of) [.non] [] f fd) (M : Free mg) (D_small_odd_parts : Df P w K mg base 6 "small_odd_parts" ["web"] (spSmallOdd Ps)) (D_least_of_part : Df P w K mg base 4 "least_of_part" ["web", "weights", "part", "ties"] (spLeastOf Ps)) (D_part_paper : Df P w K mg base 12 "part_paper" ["web", "weights", "row", "least", "sides"] (spPartAny Ps)) : FnOk P w K mg base CX0 13 f fd ["web", "weights"] (spPaperOf Ps) := by
  obtain ⟨f_small_odd_parts, fd_small_odd_parts, G_small_odd_parts, g_small_odd_parts, k_small_odd_parts, b_small_odd_parts⟩ := D_small_odd_parts
  obtain ⟨f_least_of_part, fd_least_of_part, G_least_of_part, g_least_of_part, k_least_of_part, b_least_of_part⟩ := D_least_of_part
  obtain ⟨f_part_paper, fd_part_paper, G_part_paper, g_part_paper, k_part_paper, b_part_paper⟩ := D_part_paper
  refine okD F sc_paper_of (fun vs H Q E h => ?_) (fun cdv A outer s H vs Q E hr h => ?_)
  · obtain ⟨wv, gv, n, ts, g, rfl, _⟩ := h
    rfl
  · obtain ⟨wv, gv, n, ts, g, rfl, hW, ok, hb8, hw, hT, q⟩ := h
    refine ⟨_, (pss_cons (ps_set (i := 2) sc_paper_of.nd rfl (.inl rfl) (pe_lst pa_nil))
      (pss_cons (ps_for PassesOwn.never rfl (pi_list (pe_call G_small_odd_parts (hr.mono (by decide)) (by rfl) g_small_odd_parts k_small_odd_parts b_small_odd_parts .nil pass0 (pa_cons (pv 0) pa_nil))) (pg_tup rfl (pgs_cons (pg_name (i := 3) sc_paper_of.nd rfl (.inl rfl)) (pgs_cons (pg_name (i := 4) sc_paper_of.nd rfl (.inl rfl)) pgs_nil)))
        (pss_cons (ps_set (i := 5) sc_paper_of.nd rfl (.inl rfl) (pe_ix ix_tup (pe_call G_least_of_part (hr.mono (by decide)) (by rfl) g_least_of_part k_least_of_part b_least_of_part .nil pass0 (pa_cons (pv 0) (pa_cons (pv 1) (pa_cons (pv 3) (pa_cons (pv 4) pa_nil))))) pe_int (fun _ _ => rfl)))
        (pss_one (ps_expr (pe_bm PySem.F.plainAttrs_list PySem.F.slot_list_append PySem.F.type_list_append mt_append (pv 2) (pa_cons (pe_tup (pa_cons (pv 4) (pa_cons (pe_call G_part_paper (hr.mono (by decide)) (by rfl) g_part_paper k_part_paper b_part_paper .nil pass0 (pa_cons (pv 0) (pa_cons (pv 1) (pa_cons (pe_tup (pa_cons (pv 3) (pa_cons (pv 4) pa_nil))) (pa_cons (pv 5) (pa_cons (pe_disp (pps_cons (pe_ix ix_tup (pv 3) pe_int (fun _ _ => rfl)) pe_int pps_nil) (by rfl) (by rfl) (fun z => by cases z) (by decide)) pa_nil)))))) pa_nil))) pa_nil))))))
      (pss_one (ps_ret (pe_tup (pa_cons pe_str (pa_cons (pe_callTy call_tuple_of (by rfl) M.tuple (by decide +kernel) (pa_cons (pv 2) pa_nil)) pa_nil))))))), ?_⟩
    have few := ok.few
    have hi40 := ok.hi
    have lpt := partsTo_len ts n n
    refine ⟨Nat.zero_le _, fun L nL => ?_⟩
    have s1 := same_new (o := .lst []) nL
    have hL := upd_same (H := H) (a := L) (o := .lst [])
    generalize upd H L (.lst []) = H1 at s1 hL
    have k1 := Kt.same hT s1
    refine ⟨wv, rfl, wv, n, ts, rfl, hW.tk (Same.tk s1), ok, hb8, k1.tab, fun R rows H2 k12 nR hR hrows => ?_⟩
    have k2 := k1.trans k12
    have RL : R ≠ L := fun z => by rw [z, hL] at nR; cases nR
    refine ⟨R, rfl, ⟨_, SqL.of hR⟩, ?_⟩
    have lrows := Paired.length hrows
    have lf := List.length_filter_le (oddF ts) (partsTo ts n n)
    refine for_list (xs := rows) (fun i σ' H' => ∃ (y3 y4 y5 : Option V) (ys : List V), σ' = [some wv, some gv, some (.ref L), y3, y4, y5] ∧ Kt Ps H H' ∧ H' R = some (.lst rows) ∧ Paired (RowQ H' ts) rows ((partsTo ts n n).filter (oddF ts)) ∧ H' L = some (.lst ys) ∧ Paired (RowPaper H' ts g) ys (((partsTo ts n n).filter (oddF ts)).take i)) ⟨none, none, none, [], rfl, k2, hR, hrows, k12.lst k1.tab hL, .nil⟩ (fun i σ' H' _ h => by
      obtain ⟨_, _, _, _, _, _, h, _⟩ := h
      exact SqL.of h) ?_ ?_
    · clear hL hR hrows k1 k2 s1 k12
      rintro i x σ' H4 ex ⟨y3, y4, y5, ys, rfl, k4, hR, hrows, hL, hys⟩
      have T4 := k4.tab
      obtain ⟨P', eP, a, p, t, rfl, ha, hp, ht⟩ := Paired.at hrows ex
      obtain ⟨hPm, od⟩ := List.mem_filter.mp (List.mem_of_getElem? eP)
      have il := (List.getElem?_eq_some_iff.mp ex).1
      have l8 := hb8 P' hPm od
      obtain ⟨p0, P0, eP0⟩ := List.exists_cons_of_ne_nil (part_ne hPm)
      have e0 : P'.headD 0 = p0 := by rw [eP0]; rfl
      have wsub : ∀ x ∈ tiesIn ts P', x ∈ rng ts.length := fun x hx => mem_rng.mpr (tiesIn_mem.mp hx).1
      refine ⟨a, _, rfl, SqT.of ha, rfl, _, _, rfl, _, _, rfl, rfl, ?_⟩
      refine ⟨wv, rfl, gv, rfl, .ref p, rfl, .ref t, rfl, wv, gv, p, t, n, ts, g, P', rfl, hW.tk (k4.tk hT), ok, hPm, l8, (hw.tk (k4.tk hT)).sub wsub, hp, ht, T4, fun v x H5 k45 hv hx => ?_⟩
      obtain ⟨b, z, rfl, hb, hz⟩ := hv
      have k5 := k4.trans k45
      have T5 := k5.tab
      have tk45 := k45.tk T4
      have hL5 := k45.lst T4 hL
      refine ⟨b, _, 0, .int x.1, rfl, rfl, SqT.of hb, rfl, ?_⟩
      refine ⟨.ref L, rfl, .inl ⟨rfl, _, SqL.of hL5⟩, .ref t, rfl, wv, rfl, gv, rfl, .ref p, rfl, .ref t, rfl, by show 2 ≤ sizeLine; decide, fun ro nro => ?_⟩
      have s6 := same_new (o := .tup [.ref p, .ref t]) nro
      have hro := upd_same (H := H5) (a := ro) (o := .tup [.ref p, .ref t])
      generalize upd H5 ro (.tup [.ref p, .ref t]) = H6 at s6 hro
      refine ⟨.int x.1, rfl, fun d nd => ?_⟩
      have hp6 := ((hp.tk tk45).same s6)
      refine ⟨.ref p, rfl, p, _, 0, .int p0, rfl, rfl, (hp6.same (same_new nd)).sq, by rw [eP0, List.map_cons]; exact atI_nat (j := 0) rfl, upd_same, [(Sum.inl p0, .int 0)], rfl, by show 1 ≤ 15; decide, ?_⟩
      have sd : Same H6 (upd (upd H6 d (.dK [])) d (.dK (mergeK [] [(Sum.inl p0, V.int 0)]))) := fun b o e => by rw [upd_ne (ne_of_none e nd), upd_ne (ne_of_none e nd)]; exact e
      have hd7 : (upd (upd H6 d (.dK [])) d (.dK (mergeK [] [(Sum.inl p0, V.int 0)]))) d = some (.dK (kvOf [(p0, false)])) := upd_same
      generalize (upd (upd H6 d (.dK [])) d (.dK (mergeK [] [(Sum.inl p0, V.int 0)]))) = H7 at sd hd7
      have s57 := s6.trans sd
      have k7 := k5.trans (Kt.same T5 s57)
      have T7 := k7.tab
      have tk47 := tk45.trans (Same.tk s57)
      have tk7 := k7.tk hT
      have lP : P'.length = P0.length + 1 := by rw [eP0]; rfl
      refine ⟨P'.length - 1, by omega, wv, gv, p, t, ro, d, n, ts, g, P', x, [(p0, false)], rfl, hW.tk tk7, ok, hPm, l8, (hw.tk tk7).sub wsub, hp.tk tk47, tk47 _ _ ht, sd _ _ hro, hx, hd7, ?_, by show 1 + (P'.length - 1) = P'.length; omega, T7, fun wv2 H8 k78 hv2 => ?_⟩
      · rw [eP0]
        rfl
      have k8 := k7.trans k78
      have T8 := k8.tab
      have hL8 := k78.lst T7 (s57 _ _ hL5)
      have tk48 := tk47.trans (k78.tk T7)
      refine ⟨by show 2 ≤ sizeLine; decide, fun y ny => ?_⟩
      have sy := same_new (o := .tup [.ref t, wv2]) ny
      have hLy := sy _ _ hL8
      have lys := Paired.length hys
      rw [List.length_take] at lys
      refine ⟨L, ys, .ref y, rfl, rfl, hLy, small1000 (by omega), ?_⟩
      have tkL := tk_lst (ys := ys ++ [.ref y]) hLy
      have tky := Same.tk sy
      have hR8 := k78.lst T7 (s57 _ _ (k45.lst T4 hR))
      refine ⟨_, _, _, ys ++ [.ref y], rfl, (k8.trans (Kt.same T8 sy)).mutN hT nL, ?_, Paired.mono (fun _ _ x => ((x.tk tk48).tk tky).tk tkL) hrows, upd_same, ?_⟩
      · rw [upd_ne RL]
        exact sy _ _ hR8
      · rw [List.take_add_one, eP]
        refine Paired.snoc (Paired.mono (fun _ _ x => ((x.tk tk48).tk tky).tk tkL) hys) ⟨y, t, wv2, x, rfl, tkL _ _ upd_same, tkL _ _ (tky _ _ (tk48 _ _ ht)), hx, ?_⟩
        rw [e0]
        exact (hv2.tk tky).tk tkL
    · rintro σ' H4 ⟨y3, y4, y5, ys, rfl, k4, _, _, hL, hys⟩
      rw [lrows, List.take_length] at hys
      have T4 := k4.tab
      refine ⟨.ref L, rfl, L, _, rfl, .inl ⟨SqL.of hL, fun r nr => ⟨by show 2 ≤ sizeLine; decide, fun o no => ?_⟩⟩⟩
      have s4 := same_new (o := .tup ys) nr
      have s5 := same_new (o := .tup [.str "split", .ref r]) no
      have tk := Same.tk (s4.trans s5)
      exact q (.ref o) _ (k4.trans (Kt.same T4 (s4.trans s5))) ⟨o, r, ys, rfl, upd_same, s5 _ _ upd_same, Paired.mono (fun _ _ x => x.tk tk) hys⟩
end
/-! ### the law: other webs -/
theorem cut_take {xs : List V} {k : Nat} (h : k ≤ xs.length) : cutV xs none (some (k : Int)) = xs.take k := by
  unfold cutV
  rw [HT.sIx_none, HT.sIx_nat, Nat.min_eq_left h, List.drop_zero]
  rfl
theorem cut_drop {xs : List V} {k : Nat} (h : k ≤ xs.length) : cutV xs (some (k : Int)) none = xs.drop k := by
  unfold cutV
  rw [HT.sIx_none, HT.sIx_nat, Nat.min_eq_left h]
  exact List.take_of_length_le (by rw [List.length_drop]; omega)
/-! ### papers of the mends: what they show is the least (mathematics) -/
/-- what the paper of a part shows: the least of its leaves -/
def ppV (ts : List Tie) (g : Int → Int) (P es : List Int) (least : Int) : Nat → List Nb → Int
  | 0, ks => sumW g (kbF ts ks es)
  | d + 1, ks => if least ≤ sumW g (kbF ts ks es) then sumW g (kbF ts ks es) else min (ppV ts g P es least d (ks ++ [(P.getD ks.length 0, false)])) (ppV ts g P es least d (ks ++ [(P.getD ks.length 0, true)]))
theorem kb_le {ts : List Tie} {g : Int → Int} {es : List Int} (gp : ∀ e ∈ es, 1 ≤ g e) {ks : List Nb} (nd : (ks.map (·.1)).Nodup) {c : Int → Bool} (h : ∀ q ∈ ks, c q.1 = q.2) : sumW g (kbF ts ks es) ≤ sumW g (badF ts c es) := by
  have e1 : kbF ts ks es = (badF ts c es).filter fun e => decide ((tieAt ts e).one ∈ ks.map (·.1)) && decide ((tieAt ts e).other ∈ ks.map (·.1)) := by
    unfold kbF knownF badF
    rw [List.filter_filter, List.filter_filter]
    refine List.filter_congr fun e _ => ?_
    by_cases h1 : (tieAt ts e).one ∈ ks.map (·.1)
    · by_cases h2 : (tieAt ts e).other ∈ ks.map (·.1)
      · have c1 : cOf ks (tieAt ts e).one = c (tieAt ts e).one := (h _ (cOf_in nd rfl h1)).symm
        have c2 : cOf ks (tieAt ts e).other = c (tieAt ts e).other := (h _ (cOf_in nd rfl h2)).symm
        unfold brkF
        rw [c1, c2, Bool.and_comm]
      · rw [decide_eq_false h2, Bool.and_false, Bool.and_false, Bool.false_and]
    · rw [decide_eq_false h1, Bool.false_and, Bool.and_false, Bool.false_and]
  rw [e1]
  exact sumW_filter fun e he => gp e (List.mem_filter.mp he).1
structure KsAt (P : List Int) (d : Nat) (ks : List Nb) : Prop where
  key : ks.map (·.1) = P.take ks.length
  len : ks.length + d = P.length
theorem KsAt.next {P : List Int} {d : Nat} {ks : List Nb} (h : KsAt P (d + 1) ks) (b : Bool) : KsAt P d (ks ++ [(P.getD ks.length 0, b)]) := by
  have hl : ks.length < P.length := by have := h.len; omega
  have eg : P.getD ks.length 0 = P[ks.length] := by rw [List.getD_eq_getElem?_getD, List.getElem?_eq_getElem hl]; rfl
  refine ⟨?_, by rw [List.length_append]; have := h.len; show ks.length + 1 + d = _; omega⟩
  rw [List.map_append, h.key, List.length_append, eg]
  show _ = P.take (ks.length + 1)
  rw [List.take_add_one, List.getElem?_eq_getElem hl]
  rfl
theorem ppV_ge {ts : List Tie} {g : Int → Int} {P es : List Int} {x : WL} (lex : LexMin ts g es x) (cl : ∀ e ∈ es, (tieAt ts e).one ∈ P ∧ (tieAt ts e).other ∈ P) : ∀ {d : Nat} {ks : List Nb}, KsAt P d ks → x.1 ≤ ppV ts g P es x.1 d ks
  | 0, ks, h => by
    have e := h.key
    have l := h.len
    rw [show ks.length = P.length by omega, List.take_length] at e
    unfold ppV
    rw [kb_all e cl]
    exact lex.val.le _
  | d + 1, ks, h => by
    have h1 := ppV_ge lex cl (h.next false)
    have h2 := ppV_ge lex cl (h.next true)
    unfold ppV
    split
    · assumption
    · omega
theorem ppV_is {ts : List Tie} {g : Int → Int} {P es : List Int} {x : WL} (lex : LexMin ts g es x) (nd : P.Nodup) (gp : ∀ e ∈ es, 1 ≤ g e) (cl : ∀ e ∈ es, (tieAt ts e).one ∈ P ∧ (tieAt ts e).other ∈ P) {c : Int → Bool} (hc : sumW g (badF ts c es) = x.1) : ∀ {d : Nat} {ks : List Nb}, KsAt P d ks → (∀ q ∈ ks, c q.1 = q.2) → ppV ts g P es x.1 d ks = x.1
  | 0, ks, h, hk => by
    have g1 := ppV_ge lex cl h
    have ndk : (ks.map (·.1)).Nodup := by rw [h.key]; exact nd.sublist (List.take_sublist _ _)
    have g2 := kb_le (ts := ts) gp ndk hk
    unfold ppV at g1 ⊢
    omega
  | d + 1, ks, h, hk => by
    have g1 := ppV_ge lex cl h
    have ndk : (ks.map (·.1)).Nodup := by rw [h.key]; exact nd.sublist (List.take_sublist _ _)
    have g2 := kb_le (ts := ts) gp ndk hk
    have nx : ∀ b, c (P.getD ks.length 0) = b → ∀ q ∈ ks ++ [(P.getD ks.length 0, b)], c q.1 = q.2 := fun b hb q hq => by
      rcases List.mem_append.mp hq with z | z
      · exact hk q z
      · rw [List.mem_singleton.mp z]
        exact hb
    have f1 := ppV_ge lex cl (h.next false)
    have f2 := ppV_ge lex cl (h.next true)
    unfold ppV at g1 ⊢
    split
    · omega
    · cases hb : c (P.getD ks.length 0) with
      | false =>
        have := ppV_is lex nd gp cl hc (h.next false) (nx false hb)
        omega
      | true =>
        have := ppV_is lex nd gp cl hc (h.next true) (nx true hb)
        omega
/-- the paper of a part shows its least -/
theorem ppV_part {ts : List Tie} {g : Int → Int} {P es : List Int} {x : WL} (lex : LexMin ts g es x) (nd : P.Nodup) (ne : P ≠ []) (gp : ∀ e ∈ es, 1 ≤ g e) (cl : ∀ e ∈ es, (tieAt ts e).one ∈ P ∧ (tieAt ts e).other ∈ P) : ppV ts g P es x.1 (P.length - 1) [(P.headD 0, false)] = x.1 := by
  obtain ⟨p0, P0, rfl⟩ := List.exists_cons_of_ne_nil ne
  obtain ⟨c, ec⟩ := lex.ex
  have ec1 : sumW g (badF ts c es) = x.1 := by rw [ec]; rfl
  have ks : KsAt (p0 :: P0) ((p0 :: P0).length - 1) [((p0 :: P0).headD 0, false)] := ⟨rfl, by show 1 + (P0.length + 1 - 1) = P0.length + 1; omega⟩
  cases hb : c p0 with
  | false => exact ppV_is lex nd gp cl ec1 ks fun q hq => by rw [List.mem_singleton.mp hq]; exact hb
  | true =>
    refine ppV_is lex nd gp cl (c := fun p => !c p) (by rw [badF_flip]; exact ec1) ks fun q hq => ?_
    rw [List.mem_singleton.mp hq]
    show (!c p0) = false
    rw [hb]
    rfl
/-! ### webs of many small parts: drawn -/
def rLenK (K : PySem.W.Frag) : List V → Hp → VK → Prop := fun xs H Q => ∃ p ys, xs = [V.ref p] ∧ (SqL K H p ys ∨ SqT K H p ys) ∧ Q (V.int (ys.length : Nat)) H
def spShuf : Sp := fun vs H Q _ => ∃ (d c : Addr) (n : Nat), vs = [.ref d, .int n] ∧ Deck H d c ∧ n ≤ 120 ∧ ∀ (r : Addr) (os : List Int) H', H' r = some (.lst (os.map V.int)) → os.Perm (rng n) → r ≠ d ∧ r ≠ c → H r = none → Deck H' d c → Kp d c H H' → Q (.ref r) H'
def spPieces : Sp := fun vs H Q _ => ∃ (d c : Addr) (k : Nat), vs = [.ref d, .int k, .int 24] ∧ Deck H d c ∧ 1 ≤ k ∧ k ≤ 5 ∧ ∀ (v : V) (n : Nat) (ts : List Tie) H', WebAt H' v n ts → WebOk n ts → (∀ P ∈ partsTo ts n n, P.length ≤ 8) → Deck H' d c → Kp d c H H' → Q v H'
section
variable {P : Program} {w : World} {K : PySem.W.Frag} {mg : Str → Option Value} {base : Heap}
set_option maxHeartbeats 4000000 in
theorem ok_l_shuffled {f : Addr} {fd : FuncData} (F : Fun K "_law_shuffled" "_law_shuffled" s_l_shuffled f fd) (M : Free mg) (D_l_take : Df P w K mg base 1 "_law_take" ["_law_deck_here", "_law_many"] spDraw) : FnOk P w K mg base CX0 2 f fd ["_law_deck_here", "_law_many"] spShuf := by
  obtain ⟨f_l_take, fd_l_take, G_l_take, g_l_take, k_l_take, b_l_take⟩ := D_l_take
  refine F.ok sc_l_shuffled (fun vs H Q E h => ?_) (fun cdv A outer s H vs Q E hr h => ?_)
  · obtain ⟨d, c, n, rfl, _⟩ := h
    rfl
  · obtain ⟨d, c, n, rfl, hD, n120, q⟩ := h
    refine ⟨_, (pss_cons (ps_set (i := 2) sc_l_shuffled.nd rfl (.inr rfl) (pe_listRg rfl (by rfl) M.list (prg_1 (by rfl) M.range (pv 1))))
      (pss_one (ps_ret (pe_lc (own := [("_law_k", 3)]) (g := (gName 3)) (tt := tYes) (te := tBM K "list" rPopAt _ _) rfl sc_l_shuffled.nd (pi_range1 (by rfl) M.range (pa_cons (pv 1) pa_nil)) (blkOk_by (N := N_l_shuffled) (sc := defScope s_l_shuffled) (own := [("_law_k", 3)]) (by decide +kernel)) (fun _ _ _ _ _ => (pg_name (i := 3) sc_l_shuffled.nd rfl (.inl rfl))) (fun _ _ _ _ _ => pts_nil) (fun _ _ _ _ _ => (pe_bm PySem.F.plainAttrs_list PySem.F.slot_list_pop PySem.F.type_list_pop mt_popAt (pv 2) (pa_cons (pe_call G_l_take (hr.mono (by decide)) (by rfl) g_l_take k_l_take b_l_take .nil pass0 (pa_cons (pv 0) (pa_cons (pe_callB (r := rLenK K) call_len_seq (by rfl) M.len PySem.boot_len (pa_cons (pv 2) pa_nil)) pa_nil))) pa_nil))))))), ?_⟩
    refine ⟨.int n, rfl, n, rfl, RgOk.of_le (by decide) (by omega) (by decide) (by omega), fun R nR => ?_⟩
    rw [rgV_ints]
    have rd := hD.ned nR
    have eR := same_new (o := .lst ((rng n).map V.int)) nR
    refine ⟨.int n, rfl, n, rfl, by omega, by omega, fun Z nZ => ?_⟩
    rw [Int.toNat_natCast]
    have zd := (hD.same eR).ned nZ
    have nZ0 : H Z = none := eR.free nZ
    have eZ := same_new (o := .lst []) nZ
    have zR : Z ≠ R := (ne_of_none upd_same nZ).symm
    refine lc_range (lo := 0) (n := n) (fun j H' => ∃ os rest : List Int, H' R = some (.lst (rest.map V.int)) ∧ H' Z = some (.lst (os.map V.int)) ∧ os.length = j ∧ (os ++ rest).Perm (rng n) ∧ Deck H' d c ∧ Kp d c H H') ⟨[], rng n, eZ _ _ upd_same, upd_same, rfl, List.Perm.refl _, (hD.same eR).same eZ, (Same.kp eR).trans (Same.kp eZ)⟩ ?_ ?_
    · rintro j H3 hj ⟨os, rest, hR, hZ, lo, pm, D3, K3⟩
      have ll := pm.length_eq
      rw [List.length_append, rng_length, lo] at ll
      refine ⟨rfl, .ref R, rfl, .inl ⟨rfl, _, SqL.of hR⟩, .ref d, rfl, .ref R, rfl, R, _, rfl, .inl (SqL.of hR), d, c, ((rest.map V.int).length : Int), rfl, D3, by rw [List.length_map]; omega, by rw [List.length_map]; omega, fun v H4 a4 b4 D4 K4 => ?_⟩
      rw [List.length_map] at b4
      have hR4 := K4 _ _ rd.1 rd.2 hR
      have hZ4 := K4 _ _ zd.1 zd.2 hZ
      have ey : rest[v.toNat]? = some _ := List.getElem?_eq_getElem (by omega)
      refine ⟨R, _, v, v.toNat, _, rfl, rfl, hR4, by omega, by omega, seqIndex_of a4 (by rw [List.length_map]; omega), by rw [List.getElem?_map, ey]; rfl, ?_⟩
      · refine ⟨_, by rw [upd_ne zR]; exact hZ4, by rw [List.length_map]; exact small1000 (by omega), os ++ [_], rest.eraseIdx v.toNat, by rw [upd_ne zR.symm, upd_same, eras_map], by rw [upd_same, List.map_append]; rfl, by simp [lo], ?_, (D4.mut rd.1 rd.2).mut zd.1 zd.2, ((K3.trans K4).mut (nR)).mut nZ0⟩
        rw [List.append_assoc]
        exact ((eras_perm ey).append_left os).trans pm
    · rintro H3 ⟨os, rest, hR, hZ, lo, pm, D3, K3⟩
      have ll := pm.length_eq
      rw [List.length_append, rng_length, lo] at ll
      have er : rest = [] := List.length_eq_zero_iff.mp (by omega)
      subst er
      rw [List.append_nil] at pm
      exact q Z os _ hZ pm zd nZ0 D3 K3
end
/-! ### k88: what is broken, weighed, as a sum over ties (mathematics) -/
abbrev TZ := Tie × Int
def costZ (Z : List TZ) (c : Int → Bool) : Int := (Z.map fun z => if brkF c z.1 = true then z.2 else 0).sum
theorem costZ_nil (c : Int → Bool) : costZ [] c = 0 := rfl
theorem costZ_cons (z : TZ) (Z : List TZ) (c : Int → Bool) : costZ (z :: Z) c = (if brkF c z.1 = true then z.2 else 0) + costZ Z c := by
  unfold costZ
  rw [List.map_cons, List.sum_cons]
theorem costZ_app (Z Y : List TZ) (c : Int → Bool) : costZ (Z ++ Y) c = costZ Z c + costZ Y c := by
  unfold costZ
  rw [List.map_append, List.sum_append]
theorem costZ_perm {Z Y : List TZ} (h : Z.Perm Y) (c : Int → Bool) : costZ Z c = costZ Y c := by
  induction h with
  | nil => rfl
  | cons x _ ih => rw [costZ_cons, costZ_cons, ih]
  | swap x y l => rw [costZ_cons, costZ_cons, costZ_cons, costZ_cons]; omega
  | trans _ _ a b => exact a.trans b
theorem costZ_congr {c d : Int → Bool} : ∀ {Z : List TZ}, (∀ z ∈ Z, c z.1.one = d z.1.one ∧ c z.1.other = d z.1.other) → costZ Z c = costZ Z d
  | [], _ => rfl
  | z :: Z, h => by
    have e := h z List.mem_cons_self
    have eb : brkF c z.1 = brkF d z.1 := by unfold brkF; rw [e.1, e.2]
    rw [costZ_cons, costZ_cons, costZ_congr fun x hx => h x (List.mem_cons_of_mem _ hx), eb]
theorem costZ_nn {c : Int → Bool} : ∀ {Z : List TZ}, (∀ z ∈ Z, 0 ≤ z.2) → 0 ≤ costZ Z c
  | [], _ => Int.le_refl _
  | z :: Z, h => by
    have a := h z List.mem_cons_self
    have b := costZ_nn (c := c) (Z := Z) fun x hx => h x (List.mem_cons_of_mem _ hx)
    rw [costZ_cons]
    split <;> omega
theorem sumW_bad (ts : List Tie) (g : Int → Int) (c : Int → Bool) : ∀ es : List Int, sumW g (badF ts c es) = (es.map fun e => if brkF c (tieAt ts e) = true then g e else 0).sum
  | [] => rfl
  | e :: es => by
    have ih := sumW_bad ts g c es
    unfold badF sumW at ih ⊢
    rw [List.filter_cons, List.map_cons, List.sum_cons]
    cases h : brkF c (tieAt ts e) with
    | true => rw [if_pos rfl, List.map_cons, List.sum_cons, ih, if_pos rfl]
    | false => rw [if_neg (by decide), ih, if_neg (by decide)]; omega
theorem cost_eq {ts : List Tie} {ws : List Int} (l : ws.length = ts.length) (c : Int → Bool) : sumW (gW ws) (badF ts c (rng ts.length)) = costZ (ts.zip ws) c := by
  rw [sumW_bad]
  unfold costZ
  congr 1
  refine List.ext_getElem? fun i => ?_
  rw [List.getElem?_map, List.getElem?_map]
  by_cases h : i < ts.length
  · have e1 : (rng ts.length)[i]? = some (i : Int) := by
      unfold rng
      rw [List.getElem?_map, List.getElem?_range h]
      rfl
    have e2 : (ts.zip ws)[i]? = some (ts[i], ws[i]) := by
      rw [List.getElem?_zip_eq_some]
      exact ⟨List.getElem?_eq_getElem h, List.getElem?_eq_getElem (by omega)⟩
    have e3 : tieAt ts (i : Int) = ts[i] := tieAt_of (List.getElem?_eq_getElem h)
    have e4 : gW ws (i : Int) = ws[i] := by
      unfold gW
      rw [Int.toNat_natCast, List.getD_eq_getElem?_getD, List.getElem?_eq_getElem (by omega)]
      rfl
    rw [e1, e2]
    show some (if brkF c (tieAt ts (i : Int)) = true then gW ws (i : Int) else 0) = _
    rw [e3, e4]
    rfl
  · rw [List.getElem?_eq_none (by rw [rng_length]; omega), List.getElem?_eq_none (by rw [List.length_zip]; omega)]
    rfl
structure MinZ (Z : List TZ) (v : Int) : Prop where
  ex : ∃ c, v = costZ Z c
  le : ∀ c, v ≤ costZ Z c
theorem MinZ.one {Z : List TZ} {v w : Int} (h : MinZ Z v) (k : MinZ Z w) : v = w := by
  obtain ⟨c, ec⟩ := h.ex
  obtain ⟨d, ed⟩ := k.ex
  have := h.le d
  have := k.le c
  omega
theorem minz_of {ts : List Tie} {ws : List Int} (l : ws.length = ts.length) {v : Int} : LeastV ts (gW ws) (rng ts.length) v ↔ MinZ (ts.zip ws) v := by
  constructor
  · rintro ⟨⟨c, e⟩, h⟩
    exact ⟨⟨c, by rw [e, cost_eq l]⟩, fun d => by rw [← cost_eq l]; exact h d⟩
  · rintro ⟨⟨c, e⟩, h⟩
    exact ⟨⟨c, by rw [e, cost_eq l]⟩, fun d => by rw [cost_eq l]; exact h d⟩
theorem MinZ.perm {Z Y : List TZ} {v : Int} (h : MinZ Z v) (p : Z.Perm Y) : MinZ Y v := by
  obtain ⟨c, e⟩ := h.ex
  exact ⟨⟨c, by rw [← costZ_perm p]; exact e⟩, fun d => by rw [← costZ_perm p]; exact h.le d⟩
theorem MinZ.nn {Z : List TZ} {v : Int} (h : MinZ Z v) (g : ∀ z ∈ Z, 0 ≤ z.2) : 0 ≤ v := by
  obtain ⟨c, e⟩ := h.ex
  rw [e]
  exact costZ_nn g
def swapT (t : Tie) : Tie := ⟨t.other, t.one, t.foe⟩
theorem brk_swap (c : Int → Bool) (t : Tie) : brkF c (swapT t) = brkF c t := by
  unfold brkF swapT
  show ((c t.other == c t.one) == t.foe) = _
  cases c t.one <;> cases c t.other <;> rfl
theorem cost_swap (c : Int → Bool) : ∀ Z : List TZ, costZ (Z.map fun z => (swapT z.1, z.2)) c = costZ Z c
  | [] => rfl
  | z :: Z => by rw [List.map_cons, costZ_cons, costZ_cons, cost_swap c Z, brk_swap]
theorem MinZ.double {Z : List TZ} {v : Int} (h : MinZ Z v) : MinZ (Z ++ Z.map fun z => (swapT z.1, z.2)) (2 * v) := by
  obtain ⟨c, e⟩ := h.ex
  refine ⟨⟨c, by rw [costZ_app, cost_swap, ← e]; omega⟩, fun d => ?_⟩
  have := h.le d
  rw [costZ_app, cost_swap]
  omega
theorem cost_scale (t : Int) (c : Int → Bool) : ∀ Z : List TZ, costZ (Z.map fun z => (z.1, t * z.2)) c = t * costZ Z c
  | [] => by rw [List.map_nil, costZ_nil]; omega
  | z :: Z => by
    rw [List.map_cons, costZ_cons, costZ_cons, cost_scale t c Z, Int.mul_add]
    congr 1
    show (if brkF c z.1 = true then t * z.2 else 0) = _
    split
    · rfl
    · omega
theorem MinZ.scale {Z : List TZ} {v t : Int} (h : MinZ Z v) (ht : 1 ≤ t) : MinZ (Z.map fun z => (z.1, t * z.2)) (t * v) := by
  obtain ⟨c, e⟩ := h.ex
  refine ⟨⟨c, by rw [cost_scale, ← e]⟩, fun d => ?_⟩
  rw [cost_scale]
  exact Int.mul_le_mul_of_nonneg_left (h.le d) (by omega)
theorem MinZ.leaf {Z : List TZ} {v : Int} (h : MinZ Z v) {p m w : Int} {k : Bool} (hz : ∀ z ∈ Z, z.1.one ≠ m ∧ z.1.other ≠ m) (hp : p ≠ m) (hw : 0 ≤ w) : MinZ (Z ++ [(⟨p, m, k⟩, w)]) v := by
  obtain ⟨c, e⟩ := h.ex
  refine ⟨⟨fun x => if x = m then (c p ^^ k) else c x, ?_⟩, fun d => ?_⟩
  · rw [costZ_app, costZ_cons, costZ_nil, e]
    have e1 : costZ Z (fun x => if x = m then (c p ^^ k) else c x) = costZ Z c := costZ_congr fun z hz' => by
      obtain ⟨h1, h2⟩ := hz z hz'
      exact ⟨if_neg h1, if_neg h2⟩
    have e2 : brkF (fun x => if x = m then (c p ^^ k) else c x) ⟨p, m, k⟩ = false := by
      unfold brkF
      show (((if p = m then (c p ^^ k) else c p) == (if m = m then (c p ^^ k) else c m)) == k) = false
      rw [if_neg hp, if_pos rfl]
      cases c p <;> cases k <;> rfl
    rw [e1, e2]
    simp
  · have := h.le d
    rw [costZ_app, costZ_cons, costZ_nil]
    split <;> omega
theorem MinZ.pair {Z : List TZ} {v : Int} (h : MinZ Z v) (p q w : Int) : MinZ ((⟨p, q, false⟩, w) :: (Z ++ [(⟨q, p, true⟩, w)])) (v + w) := by
  have e2 : ∀ d : Int → Bool, costZ ((⟨p, q, false⟩, w) :: (Z ++ [(⟨q, p, true⟩, w)])) d = costZ Z d + w := fun d => by
    rw [costZ_cons, costZ_app, costZ_cons, costZ_nil]
    show (if ((d p == d q) == false) = true then w else 0) + (costZ Z d + ((if ((d q == d p) == true) = true then w else 0) + 0)) = _
    cases d p <;> cases d q <;> simp <;> omega
  obtain ⟨c, e⟩ := h.ex
  exact ⟨⟨c, by rw [e2, e]⟩, fun d => by rw [e2]; have := h.le d; omega⟩
theorem MinZ.split {A B : List TZ} {t : Tie} {w l v : Int} (h : MinZ (A ++ (t, w) :: B) v) : MinZ (A ++ (t, l) :: B ++ [(swapT t, w - l)]) v := by
  have e2 : ∀ d : Int → Bool, costZ (A ++ (t, l) :: B ++ [(swapT t, w - l)]) d = costZ (A ++ (t, w) :: B) d := fun d => by
    rw [costZ_app, costZ_app, costZ_app, costZ_cons, costZ_cons, costZ_cons, costZ_nil]
    show _ + ((if brkF d t = true then l else 0) + _) + ((if brkF d (swapT t) = true then w - l else 0) + 0) = _ + ((if brkF d t = true then w else 0) + _)
    rw [brk_swap]
    split <;> omega
  obtain ⟨c, e⟩ := h.ex
  exact ⟨⟨c, by rw [e2, e]⟩, fun d => by rw [e2]; exact h.le d⟩
def mapT (f : Int → Int) (t : Tie) : Tie := ⟨f t.one, f t.other, t.foe⟩
theorem cost_map (f : Int → Int) (c : Int → Bool) : ∀ Z : List TZ, costZ (Z.map fun z => (mapT f z.1, z.2)) c = costZ Z (fun x => c (f x))
  | [] => rfl
  | z :: Z => by
    rw [List.map_cons, costZ_cons, costZ_cons, cost_map f c Z]
    rfl
theorem MinZ.map {Z : List TZ} {v : Int} (h : MinZ Z v) {f g : Int → Int} (hz : ∀ z ∈ Z, g (f z.1.one) = z.1.one ∧ g (f z.1.other) = z.1.other) : MinZ (Z.map fun z => (mapT f z.1, z.2)) v := by
  obtain ⟨c, e⟩ := h.ex
  refine ⟨⟨fun x => c (g x), ?_⟩, fun d => by rw [cost_map]; exact h.le _⟩
  rw [cost_map, e]
  refine costZ_congr fun z hz' => ?_
  obtain ⟨h1, h2⟩ := hz z hz'
  rw [h1, h2]
  exact ⟨rfl, rfl⟩
theorem MinZ.both {Z Y : List TZ} {v u n : Int} (h : MinZ Z v) (k : MinZ Y u) (hz : ∀ z ∈ Z, z.1.one < n ∧ z.1.other < n) (hy : ∀ z ∈ Y, 0 ≤ z.1.one ∧ 0 ≤ z.1.other) : MinZ (Z ++ Y.map fun z => (mapT (n + ·) z.1, z.2)) (v + u) := by
  obtain ⟨c, e⟩ := h.ex
  obtain ⟨d, e'⟩ := k.ex
  refine ⟨⟨fun x => if x < n then c x else d (x - n), ?_⟩, fun b => ?_⟩
  · rw [costZ_app, cost_map, e, e']
    congr 1
    · refine (costZ_congr fun z hz' => ?_)
      obtain ⟨h1, h2⟩ := hz z hz'
      rw [if_pos h1, if_pos h2]
      exact ⟨rfl, rfl⟩
    · refine (costZ_congr fun z hz' => ?_)
      obtain ⟨h1, h2⟩ := hy z hz'
      rw [if_neg (by omega), if_neg (by omega)]
      constructor <;> congr 1 <;> omega
  · have := h.le b
    have := k.le fun x => b (n + x)
    rw [costZ_app, cost_map]
    omega
/-- what holds of both where both together are told at their least -/
theorem both_least {Z Y : List TZ} {v u n : Int} (h : MinZ Z v) (k : MinZ Y u) {c : Int → Bool} (e : costZ (Z ++ Y.map fun z => (mapT (n + ·) z.1, z.2)) c = v + u) : costZ Z c = v ∧ costZ Y (fun x => c (n + x)) = u := by
  rw [costZ_app, cost_map] at e
  have := h.le c
  have := k.le fun x => c (n + x)
  constructor <;> omega
theorem cost_mono {c : Int → Bool} : ∀ {ts : List Tie} {ws vs : List Int}, ws.length = ts.length → Paired (fun a b => a ≤ b) ws vs → costZ (ts.zip ws) c ≤ costZ (ts.zip vs) c
  | [], _, _, _, _ => by simp [costZ_nil]
  | t :: ts, [], _, l, _ => by simp at l
  | t :: ts, w :: ws, v :: vs, l, .cons h k => by
    have ih := cost_mono (ts := ts) (c := c) (ws := ws) (vs := vs) (by simpa using l) k
    rw [List.zip_cons_cons, List.zip_cons_cons, costZ_cons, costZ_cons]
    show (if brkF c t = true then w else 0) + _ ≤ (if brkF c t = true then v else 0) + _
    split <;> omega
theorem MinZ.mono {ts : List Tie} {ws vs : List Int} {a b : Int} (h : MinZ (ts.zip ws) a) (k : MinZ (ts.zip vs) b) (l : ws.length = ts.length) (p : Paired (fun a b => a ≤ b) ws vs) : a ≤ b := by
  obtain ⟨c, e⟩ := k.ex
  have := h.le c
  have := cost_mono (ts := ts) (c := c) l p
  omega
/-! ### rising rows -/
theorem chain_of : ∀ {ns : List Int}, ns.Pairwise (· < ·) → chainB (ns.map V.int) = true
  | [], _ => rfl
  | [_], _ => rfl
  | a :: b :: ns, h => by
    show (decide (a < b) && chainB ((b :: ns).map V.int)) = true
    have h' := List.pairwise_cons.mp h
    rw [chain_of h'.2, decide_eq_true (h'.1 b (by simp))]
    rfl
theorem rise_of {H : Hp} {m : Nat} {ta : Addr} {ns : List Int} (h : H ta = some (.tup (ns.map V.int))) (b : ∀ e ∈ ns, 0 ≤ e ∧ e < (m : Int)) (pw : ns.Pairwise (· < ·)) : riseB H m (.ref ta) = true := by
  unfold riseB
  rw [parts_of' h]
  show ((ns.map V.int).all (wbelow m) && chainB (ns.map V.int)) = true
  rw [chain_of pw, Bool.and_true, List.all_eq_true]
  intro x hx
  obtain ⟨z, hz, rfl⟩ := List.mem_map.mp hx
  have := b z hz
  show (decide (0 ≤ z) && decide (z < (m : Int))) = true
  rw [decide_eq_true this.1, decide_eq_true this.2]
  rfl
/-! ### papers: what was drawn shows -/
theorem StayP.kp {d c : Addr} {H H' : Hp} (D : Deck H d c) (D' : Deck H' d c) (k : Kp d c H H') : StayP H H' := fun u hu => by
  cases u with
  | ref a =>
    by_cases ad : a = d
    · subst ad
      obtain ⟨cells, st, n, h1, _⟩ := D
      obtain ⟨cells', st', n', h1', _⟩ := D'
      refine ⟨.inr (.inr ⟨_, h1'⟩), ?_⟩
      unfold parts
      simp only [h1, h1']
    · by_cases ac : a = c
      · subst ac
        obtain ⟨cells, st, n, _, h1, _⟩ := D
        obtain ⟨cells', st', n', _, h1', _⟩ := D'
        refine ⟨.inl ⟨_, h1'⟩, ?_⟩
        unfold parts
        simp only [h1, h1']
      · unfold parts
        rcases hu with ⟨xs, h⟩ | ⟨xs, h⟩ | ⟨xs, h⟩
        · exact ⟨.inl ⟨xs, k _ _ ad ac h⟩, by simp only [h, k _ _ ad ac h]⟩
        · exact ⟨.inr (.inl ⟨xs, k _ _ ad ac h⟩), by simp only [h, k _ _ ad ac h]⟩
        · exact ⟨.inr (.inr ⟨xs, k _ _ ad ac h⟩), by simp only [h, k _ _ ad ac h]⟩
  | _ => exact ⟨hu, rfl⟩
theorem StayP.lst {l : Addr} {H : Hp} {xs ys : List V} (h : H l = some (.lst xs)) : StayP H (upd H l (.lst ys)) := fun u hu => by
  cases u with
  | ref a =>
    by_cases al : a = l
    · subst al
      refine ⟨.inl ⟨_, upd_same⟩, ?_⟩
      unfold parts
      simp only [h, upd_same]
    · refine ⟨?_, by unfold parts; simp only [upd_ne al]⟩
      rcases hu with ⟨zs, h⟩ | ⟨zs, h⟩ | ⟨zs, h⟩
      · exact .inl ⟨zs, (upd_ne al).trans h⟩
      · exact .inr (.inl ⟨zs, (upd_ne al).trans h⟩)
      · exact .inr (.inr ⟨zs, (upd_ne al).trans h⟩)
  | _ => exact ⟨hu, rfl⟩
/-- it shows z, looked at to any depth above k -/
def ShowZ (k : Nat) (H : Hp) (n : Int) (ts : List Tie) (lim given : List Int) (v : V) (z : Int) : Prop := ∀ D, k < D → shownS D H n ts lim given v = some z
theorem ShowZ.stay {e k : Nat} {H H' : Hp} {n : Int} {ts : List Tie} {lim given : List Int} {v : V} {z : Int} (h : ShowZ k H n ts lim given v z) (hv : PapV e H v) (s : StayP H H') : ShowZ k H' n ts lim given v z := fun D hD => by
  rw [shown_stay hv s]
  exact h D hD
theorem ShowZ.mono {k l : Nat} (kl : k ≤ l) {H : Hp} {n : Int} {ts : List Tie} {lim given : List Int} {v : V} {z : Int} (h : ShowZ k H n ts lim given v z) : ShowZ l H n ts lim given v z := fun D hD => h D (by omega)
theorem shown_rings {d : Nat} {H : Hp} {n : Int} {ts : List Tie} {lim given : List Int} {t r : Addr} {vs : List V} (ht : H t = some (.tup [.str "rings", .ref r])) (hr : H r = some (.tup vs)) : shownS (d + 1) H n ts lim given (.ref t) = ringsS H n ts lim given vs := by
  rw [shown_two (parts_of' ht), parts_of' hr]
  rfl
theorem shown_split {d : Nat} {H : Hp} {n : Int} {ts : List Tie} {lim given : List Int} {t r : Addr} {vs : List V} (ht : H t = some (.tup [.str "split", .ref r])) (hr : H r = some (.tup vs)) : shownS (d + 1) H n ts lim given (.ref t) = splitS H lim.length given (fun es p => shownS d H n ts lim es p) vs := by
  rw [shown_two (parts_of' ht), parts_of' hr]
  rfl
theorem ShowZ.rings {H : Hp} {n : Int} {ts : List Tie} {lim given : List Int} {t r : Addr} {vs : List V} {z : Int} (ht : H t = some (.tup [.str "rings", .ref r])) (hr : H r = some (.tup vs)) (h : ringsS H n ts lim given vs = some z) : ShowZ 0 H n ts lim given (.ref t) z := fun D hD => by
  obtain ⟨d, rfl⟩ : ∃ d, D = d + 1 := ⟨D - 1, by omega⟩
  rw [shown_rings ht hr, h]
/-- a row of a split as it is drawn -/
def SplP (e k : Nat) (H : Hp) (n : Int) (ts : List Tie) (lim : List Int) (v : V) (x : List Int × Int) : Prop := ∃ (a ta : Addr) (u : V), v = .ref a ∧ H a = some (.tup [.ref ta, u]) ∧ H ta = some (.tup (x.1.map V.int)) ∧ PapV e H u ∧ ShowZ k H n ts lim x.1 u x.2
theorem SplP.stay {e k : Nat} {H H' : Hp} {n : Int} {ts : List Tie} {lim : List Int} {v : V} {x : List Int × Int} (t : Tk H H') (s : StayP H H') (h : SplP e k H n ts lim v x) : SplP e k H' n ts lim v x := by
  obtain ⟨a, ta, u, rfl, h1, h2, h3, h4⟩ := h
  exact ⟨a, ta, u, rfl, t _ _ h1, t _ _ h2, h3.stay s, h4.stay h3 s⟩
theorem splP_stay {e k : Nat} {H H' : Hp} {n : Int} {ts : List Tie} {lim : List Int} {vs : List V} {xs : List (List Int × Int)} (t : Tk H H') (s : StayP H H') (h : Paired (SplP e k H n ts lim) vs xs) : Paired (SplP e k H' n ts lim) vs xs := Paired.mono (fun _ _ x => x.stay t s) h
theorem rowT_on {H : Hp} {m : Nat} {a ta : Addr} {u : V} {es : List Int} (ha : H a = some (.tup [.ref ta, u])) (ht : H ta = some (.tup (es.map V.int))) (b : ∀ e ∈ es, 0 ≤ e ∧ e < (m : Int)) (pw : es.Pairwise (· < ·)) : rowT H m (.ref a) = some (es, u) := by
  rw [rowT_two (parts_of' ha), if_pos (rise_of ht b pw), parts_of' ht]
  show some ((es.map V.int).map toI, u) = _
  rw [toI_map]
theorem split_fold {e k d : Nat} (kd : k < d) {H : Hp} {n : Int} {ts : List Tie} {lim given : List Int} : ∀ {vs : List V} {xs : List (List Int × Int)} (tk : List Int) (tot : Int), Paired (SplP e k H n ts lim) vs xs → (∀ x ∈ xs, x.1.Pairwise (· < ·) ∧ ∀ e ∈ x.1, (0 ≤ e ∧ e < (lim.length : Int)) ∧ e ∈ given ∧ e ∉ tk) → xs.Pairwise (fun x y => ∀ e ∈ y.1, e ∉ x.1) → vs.foldl (stepT H lim.length given (fun es p => shownS d H n ts lim es p)) (some (tk, tot)) = some (tk ++ xs.flatMap (·.1), tot + (xs.map (·.2)).sum)
  | _, _, tk, tot, .nil, _, _ => by simp
  | v :: vs, x :: xs, tk, tot, .cons r t, hx, pw => by
    obtain ⟨a, ta, u, rfl, h1, h2, h3, h4⟩ := r
    have h0 := hx x List.mem_cons_self
    have pw := List.pairwise_cons.mp pw
    have e1 : stepT H lim.length given (fun es p => shownS d H n ts lim es p) (some (tk, tot)) (.ref a) = some (tk ++ x.1, tot + x.2) := by
      rw [stepT_some, rowT_on h1 h2 (fun e he => (h0.2 e he).1) h0.1]
      show (if x.1.all (fun e => decide (e ∈ given) && !decide (e ∈ tk)) then (match shownS d H n ts lim x.1 u with | none => none | some k => some (tk ++ x.1, tot + k)) else none) = _
      rw [if_pos, h4 d kd]
      rw [List.all_eq_true]
      intro e he
      have := (h0.2 e he).2
      rw [decide_eq_true this.1, decide_eq_false this.2]
      rfl
    rw [List.foldl_cons, e1, split_fold kd _ _ t (fun y hy => ⟨(hx y (List.mem_cons_of_mem _ hy)).1, fun e he => ⟨((hx y (List.mem_cons_of_mem _ hy)).2 e he).1, ((hx y (List.mem_cons_of_mem _ hy)).2 e he).2.1, fun z => (List.mem_append.mp z).elim ((hx y (List.mem_cons_of_mem _ hy)).2 e he).2.2 (pw.1 y hy e he)⟩⟩) pw.2]
    simp only [List.flatMap_cons, List.map_cons, List.sum_cons, List.append_assoc, Int.add_assoc]
structure SplD (m : Nat) (given : List Int) (xs : List (List Int × Int)) : Prop where
  pw : ∀ x ∈ xs, x.1.Pairwise (· < ·)
  mem : ∀ x ∈ xs, ∀ e ∈ x.1, (0 ≤ e ∧ e < (m : Int)) ∧ e ∈ given
  dis : xs.Pairwise (fun x y => ∀ e ∈ y.1, e ∉ x.1)
theorem splitS_on {e k d : Nat} (kd : k < d) {H : Hp} {n : Int} {ts : List Tie} {lim given : List Int} {vs : List V} {xs : List (List Int × Int)} (hp : Paired (SplP e k H n ts lim) vs xs) (hd : SplD lim.length given xs) : splitS H lim.length given (fun es p => shownS d H n ts lim es p) vs = some (xs.map (·.2)).sum := by
  unfold splitS
  rw [split_fold kd [] 0 hp (fun x hx => ⟨hd.pw x hx, fun e he => ⟨(hd.mem x hx e he).1, (hd.mem x hx e he).2, fun z => by cases z⟩⟩) hd.dis]
  show some (0 + (xs.map (·.2)).sum) = _
  rw [Int.zero_add]
theorem ShowZ.split {e k : Nat} {H : Hp} {n : Int} {ts : List Tie} {lim given : List Int} {t r : Addr} {vs : List V} {xs : List (List Int × Int)} (ht : H t = some (.tup [.str "split", .ref r])) (hr : H r = some (.tup vs)) (hp : Paired (SplP e k H n ts lim) vs xs) (hd : SplD lim.length given xs) : ShowZ (k + 1) H n ts lim given (.ref t) (xs.map (·.2)).sum := fun D hD => by
  obtain ⟨d, rfl⟩ : ∃ d, D = d + 1 := ⟨D - 1, by omega⟩
  rw [shown_split ht hr, splitS_on (by omega) hp hd]
theorem ShowZ.case {k : Nat} {H : Hp} {n : Int} {ts : List Tie} {lim given : List Int} {t : Addr} {x y : Int} {a b : V} {z1 z2 : Int} (ht : H t = some (.tup [.str "case", .int x, .int y, a, b])) (hx : 0 ≤ x ∧ x < n) (hy : 0 ≤ y ∧ y < n) (xy : x ≠ y) (h1 : ShowZ k H n (ts ++ [⟨x, y, false⟩]) lim given a z1) (h2 : ShowZ k H n (ts ++ [⟨x, y, true⟩]) lim given b z2) : ShowZ (k + 1) H n ts lim given (.ref t) (min z1 z2) := fun D hD => by
  obtain ⟨d, rfl⟩ : ∃ d, D = d + 1 := ⟨D - 1, by omega⟩
  rw [shown_five (parts_of' ht), if_pos rfl, caseS_on]
  · show minO (shownS d H n (ts ++ [⟨x, y, false⟩]) lim given a) (shownS d H n (ts ++ [⟨x, y, true⟩]) lim given b) = _
    rw [h1 d (by omega), h2 d (by omega)]
    rfl
  · unfold unlB
    show ((decide (0 ≤ x) && decide (x < n)) && ((decide (0 ≤ y) && decide (y < n)) && !decide (V.int x = V.int y))) = true
    rw [decV, decide_eq_true hx.1, decide_eq_true hx.2, decide_eq_true hy.1, decide_eq_true hy.2, decide_eq_false xy]
    rfl
theorem WebOk.snoc {n : Int} {ts su : List Tie} {x y : Int} {kd : Bool} (h : WebOk n (ts ++ su)) (l : (ts ++ su).length < 120) (hx : 0 ≤ x ∧ x < n) (hy : 0 ≤ y ∧ y < n) (xy : x ≠ y) : WebOk n (ts ++ (su ++ [⟨x, y, kd⟩])) := by
  rw [← List.append_assoc]
  refine ⟨h.lo, h.hi, by rw [List.length_append, List.length_singleton]; omega, fun t ht => ?_⟩
  rcases List.mem_append.mp ht with z | z
  · exact h.ok t z
  · rw [List.mem_singleton.mp z]
    exact ⟨hx.1, hx.2, hy.1, hy.2, xy⟩
/-! ### k88: what the checker makes of a paper of the mends -/
def csT (p0 : Int) (ks : List Nb) : List Tie := (ks.drop 1).map fun q => ⟨p0, q.1, q.2⟩
theorem idx_ne88 {P : List Int} {a b : Int} (ha : a ∈ P) (hb : b ∈ P) (h : a ≠ b) : P.idxOf a ≠ P.idxOf b := fun z => by
  have h1 := (idx_at ha).1
  rw [z, (idx_at hb).1] at h1
  exact h (Option.some.inj h1).symm
theorem csT_len (p0 : Int) (ks : List Nb) : (csT p0 ks).length = ks.length - 1 := by
  unfold csT
  rw [List.length_map, List.length_drop]
theorem csT_snoc {p0 : Int} {ks : List Nb} (h : 1 ≤ ks.length) (q : Nb) : csT p0 (ks ++ [q]) = csT p0 ks ++ [⟨p0, q.1, q.2⟩] := by
  unfold csT
  rw [List.drop_append_of_le_length h, List.map_append]
  rfl
theorem tieAt_left {ts us : List Tie} {e : Int} (h : 0 ≤ e ∧ e < (ts.length : Int)) : tieAt (ts ++ us) e = tieAt ts e := by
  unfold tieAt
  rw [List.getD_eq_getElem?_getD, List.getD_eq_getElem?_getD, List.getElem?_append_left (by omega)]
/-- what is known of the places whose sides are known -/
structure KsP (n : Int) (P : List Int) (p0 : Int) (ks : List Nb) : Prop where
  hd : ks[0]? = some (p0, false)
  key : ks.map (·.1) = P.take ks.length
  nd : P.Nodup
  rg : ∀ p ∈ P, 0 ≤ p ∧ p < n
theorem KsP.kn {n : Int} {P : List Int} {p0 : Int} {ks : List Nb} (h : KsP n P p0 ks) : (ks.map (·.1)).Nodup := by
  rw [h.key]
  exact h.nd.sublist (List.take_sublist _ _)
theorem KsP.one {n : Int} {P : List Int} {p0 : Int} {ks : List Nb} (h : KsP n P p0 ks) : 1 ≤ ks.length := by
  have := (List.getElem?_eq_some_iff.mp h.hd).1
  omega
theorem KsP.c0 {n : Int} {P : List Int} {p0 : Int} {ks : List Nb} (h : KsP n P p0 ks) : cOf ks p0 = false := cOf_at h.kn (List.mem_of_getElem? h.hd)
theorem KsP.inP {n : Int} {P : List Int} {p0 : Int} {ks : List Nb} (h : KsP n P p0 ks) {o : Int} (ho : o ∈ ks.map (·.1)) : o ∈ P := by
  rw [h.key] at ho
  exact List.mem_of_mem_take ho
theorem KsP.p0 {n : Int} {P : List Int} {p0 : Int} {ks : List Nb} (h : KsP n P p0 ks) : p0 ∈ P := h.inP (List.mem_map.mpr ⟨_, List.mem_of_getElem? h.hd, rfl⟩)
/-- the tie that is sure of a place -/
theorem KsP.sure {n : Int} {P : List Int} {p0 : Int} {ks : List Nb} (h : KsP n P p0 ks) (ts : List Tie) {o : Int} (ho : o ∈ ks.map (·.1)) (ne : o ≠ p0) :
    ((ts.length : Int) ≤ (ts.length : Int) + (P.idxOf o : Nat) - 1 ∧ (ts.length : Int) + (P.idxOf o : Nat) - 1 < ((ts ++ csT p0 ks).length : Int)) ∧ tieAt (ts ++ csT p0 ks) ((ts.length : Int) + (P.idxOf o : Nat) - 1) = ⟨p0, o, cOf ks o⟩ := by
  obtain ⟨j, hj⟩ := List.getElem?_of_mem ho
  have jl := (List.getElem?_eq_some_iff.mp hj).1
  rw [List.length_map] at jl
  have hj2 := hj
  rw [h.key, List.getElem?_take_of_lt jl] at hj2
  have ej : P.idxOf o = j := by
    have jl2 := (List.getElem?_eq_some_iff.mp hj2).1
    have := h.nd.idxOf_getElem j jl2
    rw [List.getElem?_eq_getElem jl2] at hj2
    rw [← Option.some.inj hj2]
    exact this
  rw [List.getElem?_map] at hj
  obtain ⟨q, hq, eq⟩ := Option.map_eq_some_iff.mp hj
  have eqb : cOf ks o = q.2 := by
    rw [← eq]
    exact cOf_at h.kn (List.mem_of_getElem? hq)
  have j1 : 1 ≤ j := by
    cases j with
    | zero =>
      rw [h.hd] at hq
      cases hq
      exact absurd eq.symm ne
    | succ j => omega
  rw [ej, List.length_append, csT_len]
  refine ⟨⟨by omega, by omega⟩, ?_⟩
  unfold tieAt
  rw [List.getD_eq_getElem?_getD, List.getElem?_append_right (by omega)]
  have e1 : ((ts.length : Int) + (j : Nat) - 1).toNat - ts.length = j - 1 := by omega
  rw [e1]
  unfold csT
  rw [List.getElem?_map, List.getElem?_drop, show 1 + (j - 1) = j by omega, hq, eqb, ← eq]
  rfl
theorem unl_ints {lim : Int} {ns : List Int} (h : ∀ x ∈ ns, 0 ≤ x ∧ x < lim) (nd : ns.Nodup) : unl lim (some (ns.map V.int)) = true := by
  show ((ns.map V.int).all (wbelow lim) && decide (ns.map V.int).Nodup) = true
  rw [Bool.and_eq_true, List.all_eq_true, decide_eq_true_iff, nodup_ints]
  refine ⟨fun x hx => ?_, nd⟩
  obtain ⟨i, hi, rfl⟩ := List.mem_map.mp hx
  obtain ⟨h0, h1⟩ := h i hi
  show (decide (0 ≤ i) && decide (i < lim)) = true
  rw [decide_eq_true h0, decide_eq_true h1]
  rfl
theorem odd_mk {H : Hp} {n : Int} {ts : List Tie} {b c d : Addr} {ps es : List Int} (hb : H b = some (.tup [.ref c, .ref d])) (hc : H c = some (.tup (ps.map V.int))) (hd : H d = some (.tup (es.map V.int))) (h1 : ∀ x ∈ ps, 0 ≤ x ∧ x < n) (nd1 : ps.Nodup) (h2 : ∀ x ∈ es, 0 ≤ x ∧ x < (ts.length : Int)) (nd2 : es.Nodup) (l2 : 2 ≤ ps.length) (le : ps.length = es.length) (hr : ringI ts ps es = true) (ho : foesI ts es % 2 = 1) : oddB H n ts (.ref b) = true ∧ tiesOf H (.ref b) = es := by
  have e1 : ringB H n ts (.ref b) = true := by
    unfold ringB
    rw [parts_of' hb]
    show ringP n ts (parts H (.ref c)) (parts H (.ref d)) = true
    rw [parts_of' hc, parts_of' hd]
    show (unl n (some (ps.map V.int)) && (unl ts.length (some (es.map V.int)) && (decide (2 ≤ (ps.map V.int).length) && (decide ((ps.map V.int).length = (es.map V.int).length) && ringI ts ((ps.map V.int).map toI) ((es.map V.int).map toI))))) = true
    rw [unl_ints h1 nd1, unl_ints h2 nd2, toI_map, toI_map, List.length_map, List.length_map, decide_eq_true l2, decide_eq_true le, hr]
    rfl
  constructor
  · unfold oddB
    rw [e1, parts_of' hb]
    show (true && (match parts H (.ref d) with | some es => decide (foesI ts (es.map toI) % 2 = 1) | none => false)) = true
    rw [parts_of' hd]
    show (true && decide (foesI ts ((es.map V.int).map toI) % 2 = 1)) = true
    rw [toI_map, decide_eq_true ho]
    rfl
  · unfold tiesOf
    rw [parts_of' hb]
    show ((parts H (.ref d)).getD []).map toI = es
    rw [parts_of' hd]
    exact toI_map es
def tlE (ts : List Tie) (P : List Int) (e : Int) : List Int := rowSure ts.length P (P.headD 0) [(tieAt ts e).one, (tieAt ts e).other] ++ [e]
/-- a row of a ring is let by -/
theorem ringR_row {H : Hp} {n : Int} {ts : List Tie} {g : Int → Int} {P : List Int} {p0 : Int} {ks : List Nb} {v : V} {e : Int} (h : KsP n P p0 ks) (hp : P.headD 0 = p0) (hv : RingR H ts g P v e) (er : 0 ≤ e ∧ e < (ts.length : Int)) (g1 : 1 ≤ g e) (ok : TieOk n (tieAt ts e))
    (k1 : (tieAt ts e).one ∈ ks.map (·.1)) (k2 : (tieAt ts e).other ∈ ks.map (·.1)) (hb : brkF (cOf ks) (tieAt ts e) = true) : rowR H n (ts ++ csT p0 ks) v = some (tlE ts P e, 2 * g e) ∧ ∀ x ∈ tlE ts P e, x = e ∨ (ts.length : Int) ≤ x := by
  obtain ⟨a, b, c, d, rfl, ha, hb', hc, hd⟩ := hv
  have key : oddB H n (ts ++ csT p0 ks) (.ref b) = true ∧ tiesOf H (.ref b) = tlE ts P e ∧ ∀ x ∈ tlE ts P e, x = e ∨ (ts.length : Int) ≤ x := by
    unfold tlE
    rw [hp] at hc hd ⊢
    have el : (ts ++ csT p0 ks).length = ts.length + (csT p0 ks).length := List.length_append
    have etl : tieAt (ts ++ csT p0 ks) e = tieAt ts e := tieAt_left er
    generalize ht : tieAt ts e = t at ok k1 k2 hb hc hd etl ⊢
    obtain ⟨o1, o2, o3, o4, one⟩ := ok
    have c0 := h.c0
    have r0 := h.rg _ h.p0
    unfold brkF at hb
    have foes : ∀ us : List Tie, ∀ x y : Int, foesI us [x, y] = (if (tieAt us x).foe = true then 1 else 0) + (if (tieAt us y).foe = true then 1 else 0) := fun us x y => by
      unfold foesI
      simp only [List.filter_cons, List.filter_nil]
      split <;> split <;> rfl
    have foes3 : ∀ us : List Tie, ∀ x y z : Int, foesI us [x, y, z] = (if (tieAt us x).foe = true then 1 else 0) + (if (tieAt us y).foe = true then 1 else 0) + (if (tieAt us z).foe = true then 1 else 0) := fun us x y z => by
      unfold foesI
      simp only [List.filter_cons, List.filter_nil]
      split <;> split <;> split <;> rfl
    by_cases e1 : t.one = p0
    · have e2 : t.other ≠ p0 := fun z => one (e1.trans z.symm)
      obtain ⟨⟨s0, s1⟩, sa⟩ := h.sure ts k2 e2
      have rs : rowSure ts.length P p0 [t.one, t.other] = [(ts.length : Int) + (P.idxOf t.other : Nat) - 1] := by
        unfold rowSure
        rw [List.filter_cons_of_neg (by simp [e1]), List.filter_cons_of_pos (by simp [e2])]
        rfl
      have rp : rowPlaces p0 t = [t.one, t.other] := by
        unfold rowPlaces
        rw [if_pos (.inl e1.symm)]
      rw [rs] at hd ⊢
      rw [rp] at hc
      generalize (ts.length : Int) + (P.idxOf t.other : Nat) - 1 = s at s0 s1 sa hd ⊢
      have hd : H d = some (.tup (([s, e] : List Int).map V.int)) := hd
      show oddB H n (ts ++ csT p0 ks) (.ref b) = true ∧ tiesOf H (.ref b) = [s, e] ∧ ∀ x ∈ [s, e], x = e ∨ (ts.length : Int) ≤ x
      have z := odd_mk (n := n) (ts := ts ++ csT p0 ks) (ps := [t.one, t.other]) (es := [s, e]) hb' hc hd (fun x hx => by
          simp only [List.mem_cons, List.not_mem_nil, or_false] at hx
          rcases hx with rfl | rfl
          · exact ⟨o1, o2⟩
          · exact ⟨o3, o4⟩) (by simp [one]) (fun x hx => by
          simp only [List.mem_cons, List.not_mem_nil, or_false] at hx
          rcases hx with rfl | rfl
          · omega
          · omega) (by simp; omega) (by show 2 ≤ 2; decide) rfl (by
          show ((List.range 2).all fun k => _) = true
          rw [show List.range 2 = [0, 1] from rfl]
          show (joinB (tieAt (ts ++ csT p0 ks) s) t.one ([t.one, t.other].getD ((0 + 1) % 2) 0) && (joinB (tieAt (ts ++ csT p0 ks) e) t.other ([t.one, t.other].getD ((1 + 1) % 2) 0) && true)) = true
          rw [show (0 + 1) % 2 = 1 from rfl, show (1 + 1) % 2 = 0 from rfl]
          show (joinB (tieAt (ts ++ csT p0 ks) s) t.one t.other && (joinB (tieAt (ts ++ csT p0 ks) e) t.other t.one && true)) = true
          rw [sa, etl]
          unfold joinB
          simp [e1]) (by
          rw [foes, sa, etl]
          rw [e1, c0] at hb
          show ((if cOf ks t.other = true then 1 else 0) + (if t.foe = true then 1 else 0)) % 2 = 1
          cases h1 : cOf ks t.other <;> cases h2 : t.foe <;> rw [h1, h2] at hb <;> first | rfl | cases hb)
      exact ⟨z.1, z.2, fun x hx => by
        simp only [List.mem_cons, List.not_mem_nil, or_false] at hx
        rcases hx with rfl | rfl
        · exact .inr s0
        · exact .inl rfl⟩
    · by_cases e2 : t.other = p0
      · obtain ⟨⟨s0, s1⟩, sa⟩ := h.sure ts k1 e1
        have rs : rowSure ts.length P p0 [t.one, t.other] = [(ts.length : Int) + (P.idxOf t.one : Nat) - 1] := by
          unfold rowSure
          rw [List.filter_cons_of_pos (by simp [e1]), List.filter_cons_of_neg (by simp [e2])]
          rfl
        have rp : rowPlaces p0 t = [t.one, t.other] := by
          unfold rowPlaces
          rw [if_pos (.inr e2.symm)]
        rw [rs] at hd ⊢
        rw [rp] at hc
        generalize (ts.length : Int) + (P.idxOf t.one : Nat) - 1 = s at s0 s1 sa hd ⊢
        have hd : H d = some (.tup (([s, e] : List Int).map V.int)) := hd
        show oddB H n (ts ++ csT p0 ks) (.ref b) = true ∧ tiesOf H (.ref b) = [s, e] ∧ ∀ x ∈ [s, e], x = e ∨ (ts.length : Int) ≤ x
        have z := odd_mk (n := n) (ts := ts ++ csT p0 ks) (ps := [t.one, t.other]) (es := [s, e]) hb' hc hd (fun x hx => by
            simp only [List.mem_cons, List.not_mem_nil, or_false] at hx
            rcases hx with rfl | rfl
            · exact ⟨o1, o2⟩
            · exact ⟨o3, o4⟩) (by simp [one]) (fun x hx => by
            simp only [List.mem_cons, List.not_mem_nil, or_false] at hx
            rcases hx with rfl | rfl
            · omega
            · omega) (by simp; omega) (by show 2 ≤ 2; decide) rfl (by
            show ((List.range 2).all fun k => _) = true
            rw [show List.range 2 = [0, 1] from rfl]
            show (joinB (tieAt (ts ++ csT p0 ks) s) t.one ([t.one, t.other].getD ((0 + 1) % 2) 0) && (joinB (tieAt (ts ++ csT p0 ks) e) t.other ([t.one, t.other].getD ((1 + 1) % 2) 0) && true)) = true
            rw [show (0 + 1) % 2 = 1 from rfl, show (1 + 1) % 2 = 0 from rfl]
            show (joinB (tieAt (ts ++ csT p0 ks) s) t.one t.other && (joinB (tieAt (ts ++ csT p0 ks) e) t.other t.one && true)) = true
            rw [sa, etl]
            unfold joinB
            simp [e2]) (by
            rw [foes, sa, etl]
            rw [e2, c0] at hb
            show ((if cOf ks t.one = true then 1 else 0) + (if t.foe = true then 1 else 0)) % 2 = 1
            cases h1 : cOf ks t.one <;> cases h2 : t.foe <;> rw [h1, h2] at hb <;> first | rfl | cases hb)
        exact ⟨z.1, z.2, fun x hx => by
          simp only [List.mem_cons, List.not_mem_nil, or_false] at hx
          rcases hx with rfl | rfl
          · exact .inr s0
          · exact .inl rfl⟩
      · obtain ⟨⟨s0, s1⟩, sa⟩ := h.sure ts k1 e1
        obtain ⟨⟨u0, u1⟩, ua⟩ := h.sure ts k2 e2
        have ix := idx_ne88 (h.inP k1) (h.inP k2) one
        have rs : rowSure ts.length P p0 [t.one, t.other] = [(ts.length : Int) + (P.idxOf t.one : Nat) - 1, (ts.length : Int) + (P.idxOf t.other : Nat) - 1] := by
          unfold rowSure
          rw [List.filter_cons_of_pos (by simp [e1]), List.filter_cons_of_pos (by simp [e2])]
          rfl
        have rp : rowPlaces p0 t = [t.one, p0, t.other] := by
          unfold rowPlaces
          rw [if_neg (fun z => z.elim (fun z => e1 z.symm) (fun z => e2 z.symm))]
        rw [rs] at hd ⊢
        rw [rp] at hc
        have su : (ts.length : Int) + (P.idxOf t.one : Nat) - 1 ≠ (ts.length : Int) + (P.idxOf t.other : Nat) - 1 := by omega
        generalize (ts.length : Int) + (P.idxOf t.one : Nat) - 1 = s at s0 s1 sa hd su ⊢
        generalize (ts.length : Int) + (P.idxOf t.other : Nat) - 1 = u at u0 u1 ua hd su ⊢
        have hd : H d = some (.tup (([s, u, e] : List Int).map V.int)) := hd
        show oddB H n (ts ++ csT p0 ks) (.ref b) = true ∧ tiesOf H (.ref b) = [s, u, e] ∧ ∀ x ∈ [s, u, e], x = e ∨ (ts.length : Int) ≤ x
        have z := odd_mk (n := n) (ts := ts ++ csT p0 ks) (ps := [t.one, p0, t.other]) (es := [s, u, e]) hb' hc hd (fun x hx => by
            simp only [List.mem_cons, List.not_mem_nil, or_false] at hx
            rcases hx with rfl | rfl | rfl
            · exact ⟨o1, o2⟩
            · exact r0
            · exact ⟨o3, o4⟩) (by simp [one, e1, Ne.symm e2]) (fun x hx => by
            simp only [List.mem_cons, List.not_mem_nil, or_false] at hx
            rcases hx with rfl | rfl | rfl
            · omega
            · omega
            · omega) (by simp; omega) (by show 2 ≤ 3; decide) rfl (by
            show ((List.range 3).all fun k => _) = true
            rw [show List.range 3 = [0, 1, 2] from rfl]
            show (joinB (tieAt (ts ++ csT p0 ks) s) t.one ([t.one, p0, t.other].getD ((0 + 1) % 3) 0) && (joinB (tieAt (ts ++ csT p0 ks) u) p0 ([t.one, p0, t.other].getD ((1 + 1) % 3) 0) && (joinB (tieAt (ts ++ csT p0 ks) e) t.other ([t.one, p0, t.other].getD ((2 + 1) % 3) 0) && true))) = true
            rw [show (0 + 1) % 3 = 1 from rfl, show (1 + 1) % 3 = 2 from rfl, show (2 + 1) % 3 = 0 from rfl]
            show (joinB (tieAt (ts ++ csT p0 ks) s) t.one p0 && (joinB (tieAt (ts ++ csT p0 ks) u) p0 t.other && (joinB (tieAt (ts ++ csT p0 ks) e) t.other t.one && true))) = true
            rw [sa, ua, etl]
            unfold joinB
            simp) (by
            rw [foes3, sa, ua, etl]
            show ((if cOf ks t.one = true then 1 else 0) + (if cOf ks t.other = true then 1 else 0) + (if t.foe = true then 1 else 0)) % 2 = 1
            cases h1 : cOf ks t.one <;> cases h2 : cOf ks t.other <;> cases h3 : t.foe <;> rw [h1, h2, h3] at hb <;> first | rfl | cases hb)
        exact ⟨z.1, z.2, fun x hx => by
          simp only [List.mem_cons, List.not_mem_nil, or_false] at hx
          rcases hx with rfl | rfl | rfl
          · exact .inr s0
          · exact .inr u0
          · exact .inl rfl⟩
  obtain ⟨q1, q2, q3⟩ := key
  refine ⟨?_, q3⟩
  unfold rowR
  rw [parts_of' ha]
  show (if decide (1 ≤ 2 * g e) && oddB H n (ts ++ csT p0 ks) (.ref b) then some (tiesOf H (.ref b), 2 * g e) else none) = _
  rw [q1, q2, decide_eq_true (show 1 ≤ 2 * g e by omega)]
  rfl
/-! ### k88: what rings, cases and splits show -/
theorem sum_pick {g : Int → Int} {e : Int} : ∀ {L : List Int}, L.Nodup → e ∈ L → (L.map fun x => if x = e then 2 * g x else 0).sum = 2 * g e
  | [], _, h => by simp at h
  | x :: L, nd, h => by
    have nd' := List.nodup_cons.mp nd
    rw [List.map_cons, List.sum_cons]
    by_cases hx : x = e
    · subst hx
      rw [if_pos rfl]
      have z : ∀ {M : List Int}, x ∉ M → (M.map fun y => if y = x then 2 * g y else 0).sum = 0 := fun {M} => by
        induction M with
        | nil => intro _; rfl
        | cons y M ih =>
          intro hm
          rw [List.map_cons, List.sum_cons, if_neg (fun z => hm (by rw [z]; exact List.mem_cons_self)), ih fun z => hm (List.mem_cons_of_mem _ z)]
          omega
      rw [z nd'.1]
      omega
    · rw [if_neg hx, sum_pick nd'.2 ((List.mem_cons.mp h).resolve_left fun z => hx z.symm)]
      omega
theorem sum_two (g : Int → Int) : ∀ L : List Int, (L.map fun e => 2 * g e).sum = 2 * sumW g L
  | [] => rfl
  | x :: L => by
    rw [List.map_cons, List.sum_cons, sum_two g L]
    unfold sumW
    rw [List.map_cons, List.sum_cons]
    omega
theorem foldR {H : Hp} {n : Int} {ts : List Tie} {F : Int → List Int × Int} : ∀ {rows : List V} {L : List Int} (acc : List (List Int × Int)), Paired (fun v e => rowR H n ts v = some (F e)) rows L → rows.foldl (stepR H n ts) (some acc) = some (acc ++ L.map F)
  | _, _, acc, .nil => by simp
  | r :: rows, e :: L, acc, .cons h t => by
    rw [List.foldl_cons]
    have : stepR H n ts (some acc) r = some (acc ++ [F e]) := by
      show (match rowR H n ts r with | none => none | some x => some (acc ++ [x])) = _
      rw [h]
    rw [this, foldR _ t, List.map_cons, List.append_assoc]
    rfl
structure PartW (n : Int) (ts : List Tie) (g : Int → Int) (P es : List Int) (lim : List Int) : Prop where
  rg : ∀ e ∈ es, 0 ≤ e ∧ e < (ts.length : Int)
  nd : es.Nodup
  cl : ∀ e ∈ es, (tieAt ts e).one ∈ P ∧ (tieAt ts e).other ∈ P
  ok : ∀ e ∈ es, TieOk n (tieAt ts e)
  g1 : ∀ e ∈ es, 1 ≤ g e
  ll : lim.length = ts.length
  lim : ∀ e ∈ es, 2 * g e ≤ lim.getD e.toNat 0
theorem kb_sub {ts : List Tie} {ks : List Nb} {es : List Int} : ∀ e ∈ kbF ts ks es, e ∈ es ∧ (tieAt ts e).one ∈ ks.map (·.1) ∧ (tieAt ts e).other ∈ ks.map (·.1) ∧ brkF (cOf ks) (tieAt ts e) = true := fun e he => by
  unfold kbF knownF at he
  obtain ⟨h1, h2⟩ := List.mem_filter.mp he
  obtain ⟨h3, h4⟩ := List.mem_filter.mp h1
  rw [Bool.and_eq_true, decide_eq_true_iff, decide_eq_true_iff] at h4
  exact ⟨h3, h4.1, h4.2, h2⟩
theorem rings_show88 {H : Hp} {n : Int} {ts : List Tie} {g : Int → Int} {P es lim : List Int} {p0 : Int} {ks : List Nb} {rows : List V} (w : PartW n ts g P es lim) (h : KsP n P p0 ks) (hp : P.headD 0 = p0) (hr : Paired (RingR H ts g P) rows (kbF ts ks es)) : ringsS H n (ts ++ csT p0 ks) lim es rows = some (sumW g (kbF ts ks es)) := by
  have nd : (kbF ts ks es).Nodup := by
    unfold kbF knownF
    exact (w.nd.filter _).filter _
  have ring : ∀ {v : V} {e : Int}, e ∈ kbF ts ks es → RingR H ts g P v e → rowR H n (ts ++ csT p0 ks) v = some (tlE ts P e, 2 * g e) ∧ ∀ x ∈ tlE ts P e, x = e ∨ (ts.length : Int) ≤ x := fun {v e} he hv => by
    obtain ⟨h1, h2, h3, h4⟩ := kb_sub e he
    exact ringR_row h hp hv (w.rg e h1) (w.g1 e h1) (w.ok e h1) h2 h3 h4
  have hr' : ∀ {rows : List V} {L : List Int}, Paired (RingR H ts g P) rows L → (∀ e ∈ L, e ∈ kbF ts ks es) → Paired (fun v e => rowR H n (ts ++ csT p0 ks) v = some (tlE ts P e, 2 * g e)) rows L ∧ ∀ e ∈ L, ∀ x ∈ tlE ts P e, x = e ∨ (ts.length : Int) ≤ x := fun {rows L} pr => by
    induction pr with
    | nil => exact fun _ => ⟨.nil, fun e he => by simp at he⟩
    | cons a b ih =>
      intro hs
      obtain ⟨i1, i2⟩ := ih fun e he => hs e (List.mem_cons_of_mem _ he)
      obtain ⟨r1, r2⟩ := ring (hs _ List.mem_cons_self) a
      refine ⟨.cons r1 i1, fun e he => ?_⟩
      rcases List.mem_cons.mp he with rfl | he
      · exact r2
      · exact i2 e he
  obtain ⟨pr, tl⟩ := hr' hr fun e he => he
  have mem_e : ∀ e : Int, e ∈ tlE ts P e := fun e => List.mem_append_right _ (List.mem_singleton.mpr rfl)
  unfold ringsS
  rw [foldR (F := fun e => (tlE ts P e, 2 * g e)) [] pr, List.nil_append]
  show (if givR lim.length es ((kbF ts ks es).map fun e => (tlE ts P e, 2 * g e)) && fitR lim ((kbF ts ks es).map fun e => (tlE ts P e, 2 * g e)) then some ((totR ((kbF ts ks es).map fun e => (tlE ts P e, 2 * g e)) + 1) / 2) else none) = _
  have a1 : givR lim.length es ((kbF ts ks es).map fun e => (tlE ts P e, 2 * g e)) = true := by
    unfold givR
    rw [List.all_eq_true]
    intro y hy
    obtain ⟨e, he, rfl⟩ := List.mem_map.mp hy
    rw [List.all_eq_true]
    intro x hx
    rw [Bool.or_eq_true, decide_eq_true_iff, decide_eq_true_iff, w.ll]
    rcases tl e he x hx with h | h
    · exact .inl (by rw [h]; exact (kb_sub e he).1)
    · exact .inr h
  have a2 : fitR lim ((kbF ts ks es).map fun e => (tlE ts P e, 2 * g e)) = true := by
    unfold fitR
    rw [List.all_eq_true]
    intro y hy
    obtain ⟨e, he, rfl⟩ := List.mem_map.mp hy
    rw [List.all_eq_true]
    intro x hx
    rw [Bool.or_eq_true, decide_eq_true_iff, decide_eq_true_iff, w.ll]
    rcases tl e he x hx with h | h
    · refine .inr ?_
      have h' : x = e := h
      rw [h']
      have es' := (kb_sub e he).1
      have er := w.rg e es'
      have ld : loadR ((kbF ts ks es).map fun e => (tlE ts P e, 2 * g e)) e = 2 * g e := by
        unfold loadR
        rw [List.map_map]
        have ee : (kbF ts ks es).map ((fun x => if e ∈ x.1 then x.2 else 0) ∘ fun e => (tlE ts P e, 2 * g e)) = (kbF ts ks es).map fun x => if x = e then 2 * g x else 0 := by
          refine List.map_congr_left fun a ha => ?_
          show (if e ∈ tlE ts P a then 2 * g a else 0) = _
          by_cases q : a = e
          · rw [if_pos q, if_pos (by rw [q]; exact mem_e e)]
          · rw [if_neg q, if_neg fun z => by
              rcases tl a ha e z with z | z
              · exact q z.symm
              · omega]
        rw [ee]
        exact sum_pick nd he
      rw [ld]
      exact w.lim e es'
    · exact .inl h
  rw [a1, a2]
  show some ((totR _ + 1) / 2) = _
  have a3 : totR ((kbF ts ks es).map fun e => (tlE ts P e, 2 * g e)) = 2 * sumW g (kbF ts ks es) := by
    unfold totR
    rw [List.map_map]
    exact sum_two g _
  rw [a3]
  congr 1
  omega
theorem KsP.next {n : Int} {P : List Int} {p0 : Int} {ks : List Nb} (h : KsP n P p0 ks) {pl : Int} (e : P[ks.length]? = some pl) (b : Bool) : KsP n P p0 (ks ++ [(pl, b)]) := by
  refine ⟨?_, ?_, h.nd, h.rg⟩
  · rw [List.getElem?_append_left (by have := h.one; omega)]
    exact h.hd
  · rw [List.map_append, h.key, List.length_append]
    show P.take ks.length ++ [pl] = P.take (ks.length + 1)
    rw [List.take_add_one, e]
    rfl
theorem shown_case {H : Hp} {n : Int} {ts : List Tie} {lim given : List Int} {f : Nat} {a : Addr} {p q : Int} {t1 t2 : V} (h1 : H a = some (.tup [.str "case", .int p, .int q, t1, t2])) : shownS (f + 1) H n ts lim given (.ref a) = caseS n (fun t x => shownS f H n (ts ++ [t]) lim given x) (.int p) (.int q) t1 t2 := by
  rw [shown_five (parts_of' h1), if_pos rfl]
theorem knot_show88 {H : Hp} {n : Int} {ts : List Tie} {g : Int → Int} {P es lim : List Int} {p0 least : Int} (w : PartW n ts g P es lim) (hp : P.headD 0 = p0) : ∀ {d f : Nat} {ks : List Nb} {v : V}, d ≤ f → KsP n P p0 ks → PPV H ts g P es least d v ks → shownS (f + 1) H n (ts ++ csT p0 ks) lim es v = some (ppV ts g P es least d ks)
  | 0, f, ks, v, _, h, hv => by
    unfold PPV at hv
    rcases hv with ⟨_, a, r, rows, rfl, h1, h2, h3⟩ | ⟨_, h'⟩
    · rw [shown_rings h1 h2]
      exact rings_show88 w h hp h3
    · exact h'.elim
  | d + 1, f, ks, v, l, h, hv => by
    unfold PPV at hv
    unfold ppV
    rcases hv with ⟨h0, a, r, rows, rfl, h1, h2, h3⟩ | ⟨h0, a, t1, t2, pl, rfl, e, h1, h2, h3⟩
    · rw [if_pos h0, shown_rings h1 h2]
      exact rings_show88 w h hp h3
    · rw [if_neg h0]
      obtain ⟨f, rfl⟩ : ∃ f', f = f' + 1 := ⟨f - 1, by omega⟩
      have i1 := knot_show88 w hp (d := d) (f := f) (by omega) (h.next e false) h2
      have i2 := knot_show88 w hp (d := d) (f := f) (by omega) (h.next e true) h3
      rw [csT_snoc h.one, ← List.append_assoc] at i1 i2
      have eg : P.getD ks.length 0 = pl := by rw [List.getD_eq_getElem?_getD, e]; rfl
      rw [eg]
      rw [hp] at h1
      rw [shown_case h1]
      have r0 := h.rg _ h.p0
      have rl := h.rg pl (List.mem_of_getElem? e)
      have ne : p0 ≠ pl := fun z => by
        have hh := (h.next e false).kn
        rw [List.map_append] at hh
        have := (List.nodup_append.mp hh).2.2 p0 (List.mem_map.mpr ⟨_, List.mem_of_getElem? h.hd, rfl⟩) pl (by simp)
        exact this z
      have cs : ∀ S : Tie → V → Option Int, caseS n S (.int p0) (.int pl) t1 t2 = if wbelow n (.int p0) && (wbelow n (.int pl) && !decide (p0 = pl)) then minO (S ⟨p0, pl, false⟩ t1) (S ⟨p0, pl, true⟩ t2) else none := fun _ => rfl
      rw [cs]
      have b0 : wbelow n (.int p0) = true := by
        show (decide (0 ≤ p0) && decide (p0 < n)) = true
        rw [decide_eq_true r0.1, decide_eq_true r0.2]
        rfl
      have b1 : wbelow n (.int pl) = true := by
        show (decide (0 ≤ pl) && decide (pl < n)) = true
        rw [decide_eq_true rl.1, decide_eq_true rl.2]
        rfl
      rw [b0, b1, decide_eq_false ne, i1, i2, if_pos (by decide)]
      rfl
/-- the paper of a web shows its least -/
theorem lex_fill2 {ts : List Tie} {g : Int → Int} {f : List Int → Bool} : ∀ {Ps : List (List Int)} {ys : List WL}, (∀ P ∈ Ps, f P = false → LexMin ts g (tiesIn ts P) (0, [])) → Paired (fun P x => LexMin ts g (tiesIn ts P) x) (Ps.filter f) ys → ∃ xs, Paired (fun P x => LexMin ts g (tiesIn ts P) x) Ps xs ∧ (xs.map (·.1)).sum = (ys.map (·.1)).sum
  | [], ys, _, h => by
    cases h
    exact ⟨[], .nil, rfl⟩
  | P :: Ps, ys, z, h => by
    cases hf : f P with
    | true =>
      rw [List.filter_cons_of_pos hf] at h
      cases h with
      | cons a b =>
        obtain ⟨xs, h1, h2⟩ := lex_fill2 (fun Q hQ => z Q (List.mem_cons_of_mem _ hQ)) b
        exact ⟨_ :: xs, .cons a h1, by rw [List.map_cons, List.map_cons, List.sum_cons, List.sum_cons, h2]⟩
    | false =>
      rw [List.filter_cons_of_neg (by rw [hf]; decide)] at h
      obtain ⟨xs, h1, h2⟩ := lex_fill2 (fun Q hQ => z Q (List.mem_cons_of_mem _ hQ)) h
      exact ⟨(0, []) :: xs, .cons (z P List.mem_cons_self hf) h1, by rw [List.map_cons, List.sum_cons, h2]; show 0 + _ = _; omega⟩
theorem tiesIn_pw (ts : List Tie) (P : List Int) : (tiesIn ts P).Pairwise (· < ·) := (rng_rising _).filter _
/-- a paper of the mends, as a thing -/
theorem Td88 {d : Nat} {H : Hp} {a : Addr} {xs : List V} (h : H a = some (.tup xs)) (l : xs.length ≤ 1000) (hx : ∀ x ∈ xs, PapV d H x) : PapV (d + 1) H (.ref a) := ⟨.inr (.inl ⟨_, h⟩), fun ys e => by
  rw [parts_of' h] at e
  cases e
  exact ⟨hx, l⟩⟩
theorem pap_sc {d : Nat} {H : Hp} {v : V} (h : Kn H v) (n : parts H v = none) : PapV d H v := by
  cases d with
  | zero => exact ⟨h, n⟩
  | succ d => exact ⟨h, fun ys e => by rw [n] at e; cases e⟩
theorem pap_ints {d : Nat} {H : Hp} {a : Addr} {ns : List Int} (h : H a = some (.tup (ns.map V.int))) (l : ns.length ≤ 1000) : PapV (d + 1) H (.ref a) := Td88 h (by rw [List.length_map]; exact l) fun x hx => by
  obtain ⟨i, _, rfl⟩ := List.mem_map.mp hx
  exact pap_sc True.intro rfl
theorem pap_two {d : Nat} {H : Hp} {a : Addr} {x y : V} (h : H a = some (.tup [x, y])) (hx : PapV d H x) (hy : PapV d H y) : PapV (d + 1) H (.ref a) := Td88 h (by show 2 ≤ 1000; decide) fun z hz => by
  simp only [List.mem_cons, List.not_mem_nil, or_false] at hz
  rcases hz with rfl | rfl
  · exact hx
  · exact hy
theorem pap_str {d : Nat} {H : Hp} {z : Str} : PapV d H (.str z) := pap_sc True.intro rfl
theorem pap_int {d : Nat} {H : Hp} {z : Int} : PapV d H (.int z) := pap_sc True.intro rfl
theorem rowSure_len (m : Nat) (P : List Int) (f : Int) (ps : List Int) : (rowSure m P f ps).length ≤ ps.length := by
  unfold rowSure
  rw [List.length_map]
  exact List.length_filter_le _ _
theorem pap_ring {H : Hp} {ts : List Tie} {g : Int → Int} {P : List Int} {v : V} {e : Int} (h : RingR H ts g P v e) : PapV 3 H v := by
  obtain ⟨a, b, c, d, rfl, ha, hb, hc, hd⟩ := h
  refine pap_two ha (pap_two hb (pap_ints hc ?_) (pap_ints hd ?_)) pap_int
  · unfold rowPlaces
    split
    · show 2 ≤ 1000; decide
    · show 3 ≤ 1000; decide
  · rw [List.length_append]
    have := rowSure_len ts.length P (P.headD 0) [(tieAt ts e).one, (tieAt ts e).other]
    show _ + 1 ≤ 1000
    have : (rowSure ts.length P (P.headD 0) [(tieAt ts e).one, (tieAt ts e).other]).length ≤ 2 := this
    omega
theorem paired_all {α β : Type} {R : α → β → Prop} {Q : α → Prop} {xs : List α} {ys : List β} (h : Paired R xs ys) (f : ∀ x y, y ∈ ys → R x y → Q x) : ∀ x ∈ xs, Q x := fun x hx => by
  obtain ⟨i, hi⟩ := List.getElem?_of_mem hx
  obtain ⟨y, ey, r⟩ := Paired.at h hi
  exact f x y (List.mem_of_getElem? ey) r
theorem pap_knot {H : Hp} {ts : List Tie} {g : Int → Int} {P es : List Int} {least : Int} (l : es.length ≤ 1000) : ∀ {d : Nat} {v : V} {ks : List Nb}, PPV H ts g P es least d v ks → PapV (5 + d) H v
  | 0, v, ks, h => by
    unfold PPV at h
    rcases h with ⟨_, a, r, rows, rfl, h1, h2, h3⟩ | ⟨_, h'⟩
    · refine pap_two h1 pap_str (Td88 h2 ?_ (paired_all h3 fun x y _ hr => pap_ring hr))
      rw [Paired.length h3]
      unfold kbF knownF
      have a1 := List.length_filter_le (fun e => decide ((tieAt ts e).one ∈ ks.map (·.1)) && decide ((tieAt ts e).other ∈ ks.map (·.1))) es
      have a2 := List.length_filter_le (fun e => brkF (cOf ks) (tieAt ts e)) (es.filter fun e => decide ((tieAt ts e).one ∈ ks.map (·.1)) && decide ((tieAt ts e).other ∈ ks.map (·.1)))
      omega
    · exact h'.elim
  | d + 1, v, ks, h => by
    unfold PPV at h
    rcases h with ⟨_, a, r, rows, rfl, h1, h2, h3⟩ | ⟨_, a, t1, t2, pl, rfl, e, h1, h2, h3⟩
    · refine PapV.mono (d := 5) (by omega) (pap_two h1 pap_str (Td88 h2 ?_ (paired_all h3 fun x y _ hr => pap_ring hr)))
      rw [Paired.length h3]
      unfold kbF knownF
      have a1 := List.length_filter_le (fun e => decide ((tieAt ts e).one ∈ ks.map (·.1)) && decide ((tieAt ts e).other ∈ ks.map (·.1))) es
      have a2 := List.length_filter_le (fun e => brkF (cOf ks) (tieAt ts e)) (es.filter fun e => decide ((tieAt ts e).one ∈ ks.map (·.1)) && decide ((tieAt ts e).other ∈ ks.map (·.1)))
      omega
    · have i1 := pap_knot l h2
      have i2 := pap_knot l h3
      show PapV (5 + d + 1) H _
      refine Td88 h1 (by show 5 ≤ 1000; decide) fun z hz => ?_
      simp only [List.mem_cons, List.not_mem_nil, or_false] at hz
      rcases hz with rfl | rfl | rfl | rfl | rfl
      · exact pap_str
      · exact pap_int
      · exact pap_int
      · exact i1
      · exact i2
/-- the paper of a web: a thing, and what it shows is the least -/
theorem paper_shows {H : Hp} {n : Nat} {ts : List Tie} {g : Int → Int} {v : V} {lim : List Int} (ok : WebOk n ts) (n8 : n ≤ 40) (gp : ∀ e ∈ rng ts.length, 1 ≤ g e) (h8 : ∀ P ∈ partsTo ts n n, oddF ts P = true → P.length ≤ 8) (hv : PaperOfV H ts n g v) (ll : lim.length = ts.length) (lm : ∀ e ∈ rng ts.length, 2 * g e ≤ lim.getD e.toNat 0) :
    PapV 16 H v ∧ ∃ W, LeastV ts g (rng ts.length) W ∧ shownS 17 H n ts lim (rng ts.length) v = some W := by
  obtain ⟨a, r, rows, rfl, h1, h2, h3⟩ := hv
  have pt := parts_of_web ok.ok
  have few := ok.few
  have til : ∀ P, (tiesIn ts P).length ≤ 1000 := fun P => by have := tiesIn_len ts P; omega
  have row : ∀ {P : List Int} {v : V}, P ∈ (partsTo ts n n).filter (oddF ts) → RowPaper H ts g v P → ∃ x, LexMin ts g (tiesIn ts P) x ∧ SplP 13 15 H n ts lim v (tiesIn ts P, x.1) := fun {P v} hP hr => by
    obtain ⟨hPm, od⟩ := List.mem_filter.mp hP
    obtain ⟨a, t, w, x, rfl, ha, ht, lx, hw⟩ := hr
    refine ⟨x, lx, a, t, w, rfl, ha, ht, ?_, fun D hD => ?_⟩
    · exact PapV.mono (by have := h8 P hPm od; omega) (pap_knot (til P) hw)
    · have pne := part_ne hPm
      obtain ⟨p0, P0, eP⟩ := List.exists_cons_of_ne_nil pne
      have e0 : P.headD 0 = p0 := by rw [eP]; rfl
      have pnd : P.Nodup := (part_pw hPm).imp fun h => by omega
      have wP : PartW n ts g P (tiesIn ts P) lim := ⟨fun e he => (tiesIn_mem.mp he).1, (tiesIn_pw ts P).imp fun h => by omega, tiesIn_cl pt hPm, fun e he => by
        have er := (tiesIn_mem.mp he).1
        exact ok.ok _ (List.mem_of_getElem? (tieAt_get er.1 er.2)), fun e he => gp e (mem_rng.mpr (tiesIn_mem.mp he).1), ll, fun e he => lm e (mem_rng.mpr (tiesIn_mem.mp he).1)⟩
      have kP : KsP n P p0 [(P.headD 0, false)] := ⟨by rw [e0]; rfl, by rw [e0, eP]; rfl, pnd, part_rng hPm⟩
      obtain ⟨f, rfl⟩ : ∃ f, D = f + 1 := ⟨D - 1, by omega⟩
      have z := knot_show88 wP e0 (d := P.length - 1) (f := f) (by have := h8 P hPm od; omega) kP hw
      have ce : csT p0 [(P.headD 0, false)] = [] := rfl
      rw [ce, List.append_nil] at z
      rw [z, ppV_part lx pnd pne wP.g1 wP.cl]
  have rowsL : ∀ {rows : List V} {L : List (List Int)}, Paired (RowPaper H ts g) rows L → (∀ P ∈ L, P ∈ (partsTo ts n n).filter (oddF ts)) → ∃ xs : List WL, Paired (fun P x => LexMin ts g (tiesIn ts P) x) L xs ∧ Paired (SplP 13 15 H n ts lim) rows ((L.zip xs).map fun q => (tiesIn ts q.1, q.2.1)) ∧ ((L.zip xs).map fun q => q.2.1) = xs.map (·.1) := fun {rows L} pr => by
    induction pr with
    | nil => exact fun _ => ⟨[], .nil, .nil, rfl⟩
    | cons a b ih =>
      intro hs
      obtain ⟨xs, i1, i2, i3⟩ := ih fun P hP => hs P (List.mem_cons_of_mem _ hP)
      obtain ⟨x, l1, l2⟩ := row (hs _ List.mem_cons_self) a
      exact ⟨x :: xs, .cons l1 i1, .cons l2 i2, by rw [List.zip_cons_cons, List.map_cons, List.map_cons, i3]⟩
  obtain ⟨xs, lx, sp, ex⟩ := rowsL h3 fun P hP => hP
  constructor
  · refine pap_two h1 pap_str (Td88 h2 ?_ (paired_all h3 fun x P hP hr => ?_))
    · have := Paired.length h3
      have a1 := List.length_filter_le (oddF ts) (partsTo ts n n)
      have a2 := partsTo_len ts n n
      omega
    · obtain ⟨_, _, a, t, w, e, ha, ht, hp, _⟩ := row hP hr
      rw [e]
      exact pap_two ha (pap_ints ht (til P)) hp
  · obtain ⟨ys, hys, eys⟩ := lex_fill2 (ts := ts) (g := g) (f := oddF ts) (fun P hP h0 => by
      have ne := @of_decide_eq_false _ (_) h0
      obtain ⟨c, hc⟩ := Classical.not_not.mp ne
      exact LexMin.zero (fun e he => gp e (mem_rng.mpr (tiesIn_mem.mp he).1)) hc) lx
    obtain ⟨c, told⟩ := told_of_lex ok.ok hys
    refine ⟨(xs.map (·.1)).sum, ⟨⟨c, by rw [← eys]; exact told.sum⟩, fun d => by rw [← eys, told.sum]; exact told.le d⟩, ?_⟩
    have lxl := Paired.length lx
    rw [shown_split h1 h2, splitS_on (k := 15) (by decide) sp, List.map_map]
    · congr 1
      rw [← ex]
      rfl
    · refine ⟨fun x hx => ?_, fun x hx e he => ?_, ?_⟩
      · obtain ⟨q, _, rfl⟩ := List.mem_map.mp hx
        exact tiesIn_pw _ _
      · obtain ⟨q, _, rfl⟩ := List.mem_map.mp hx
        have := (tiesIn_mem.mp he).1
        rw [ll]
        exact ⟨this, mem_rng.mpr this⟩
      · rw [List.pairwise_map]
        have dis := pt.dis.filter (oddF ts)
        have dz : ((((partsTo ts n n).filter (oddF ts)).zip xs)).Pairwise fun P Q => ∀ p ∈ P.1, p ∉ Q.1 := by
          have key : ∀ {L : List (List Int)} {xs : List WL}, L.Pairwise (fun P Q => ∀ p ∈ P, p ∉ Q) → (L.zip xs).Pairwise fun P Q => ∀ p ∈ P.1, p ∉ Q.1 := fun {L} => by
            induction L with
            | nil => intro xs _; exact .nil
            | cons P L ih =>
              intro xs h
              cases xs with
              | nil => exact .nil
              | cons x xs =>
                obtain ⟨h1, h2⟩ := List.pairwise_cons.mp h
                rw [List.zip_cons_cons]
                exact List.pairwise_cons.mpr ⟨fun q hq p hp => h1 q.1 (List.of_mem_zip hq).1 p hp, ih h2⟩
          exact key dis
        refine dz.imp fun {P Q} h e he z => ?_
        exact h _ (tiesIn_mem.mp z).2 (tiesIn_mem.mp he).2
/-! ### k88: weights drawn; the least, looked at -/
def spWeighed : Sp := fun vs H Q _ => ∃ (d c t : Addr) (us : List V), vs = [.ref d, .ref t] ∧ Deck H d c ∧ H t = some (.tup us) ∧ us.length ≤ 120 ∧
  ∀ r (ws : List Int) H', H' r = some (.tup (ws.map V.int)) → ws.length = us.length → (∀ x ∈ ws, 1 ≤ x ∧ x ≤ 10 ^ 9) → Deck H' d c → Kp d c H H' → Q (.ref r) H'
def spLst88 (Ps : List Addr) : Sp := fun vs H Q _ => ∃ (wv : V) (gw : Addr) (n : Nat) (ts : List Tie) (ws : List Int), vs = [wv, .ref gw] ∧ WebAt H wv n ts ∧ WebOk n ts ∧ n ≤ 8 ∧ ts.length ≤ 60 ∧ H gw = some (.tup (ws.map V.int)) ∧ ws.length = ts.length ∧ (∀ x ∈ ws, 1 ≤ x) ∧ Tabs Ps H ∧ ∀ v H', Kt Ps H H' → MinZ (ts.zip ws) v → 0 ≤ v → Q (.int v) H'
theorem Deck.tn {H : Hp} {d c a : Addr} {xs : List V} (D : Deck H d c) (h : H a = some (.tup xs)) : a ≠ d ∧ a ≠ c := by
  obtain ⟨cells, st, n, e1, e2, _⟩ := D
  exact ⟨(fun z => by rw [z, e1] at h; cases h), (fun z => by rw [z, e2] at h; cases h)⟩
theorem nab9 {m : Int} (h0 : 0 ≤ m) (h1 : m ≤ 10000000000) : m.natAbs < 2 ^ 120 := Nat.lt_of_le_of_lt (show m.natAbs ≤ 10000000000 by omega) (by decide)
theorem Kp.same8 {d c : Addr} {H H' : Hp} (s : Same H H') : Kp d c H H' := fun b u _ _ h => s _ _ h
theorem part_few {ts : List Tie} {n : Nat} {P : List Int} (h : P ∈ partsTo ts n n) : P.length ≤ n := pigeon n P ((part_pw h).imp fun h => by omega) (part_rng h)
theorem wts_of {H : Hp} {gw : Addr} {ws : List Int} {m : Nat} (h : H gw = some (.tup (ws.map V.int))) (l : ws.length = m) : Wts H (.ref gw) (rng m) (gW ws) := .inr ⟨gw, ws, rfl, h, fun x hx => by
  have := mem_rng.mp hx
  exact ⟨by omega, rfl⟩⟩
theorem gW_ge {ws : List Int} {m : Nat} {b : Int} (h : ∀ x ∈ ws, b ≤ x) (l : ws.length = m) : ∀ e ∈ rng m, b ≤ gW ws e := fun e he => by
  have := mem_rng.mp he
  unfold gW
  rw [List.getD_eq_getElem?_getD, List.getElem?_eq_getElem (by omega)]
  exact h _ (List.getElem_mem _)
theorem lim_at {g : Int → Int} {m : Nat} : ∀ e ∈ rng m, (limW g m).getD e.toNat 0 = 2 * g e := fun e he => by
  obtain ⟨h0, h1⟩ := mem_rng.mp he
  unfold limW
  have e1 : (rng m)[e.toNat]? = some e := by
    unfold rng
    rw [List.getElem?_map, List.getElem?_range (by omega)]
    show some ((e.toNat : Nat) : Int) = some e
    congr 1
    omega
  rw [List.getD_eq_getElem?_getD, List.getElem?_map, e1]
  rfl
section
variable {P : Program} {w : World} {K : PySem.W.Frag} {mg : Str → Option Value} {base : Heap}
set_option maxHeartbeats 4000000 in
theorem ok_l_weighed {f : Addr} {fd : FuncData} (F : Fun K "_law_weighed" "_law_weighed" s_l_weighed f fd) (M : Free mg) (D_l_take : Df P w K mg base 1 "_law_take" ["_law_deck_here", "_law_many"] spDraw) : FnOk P w K mg base CX0 2 f fd ["_law_deck_here", "_law_ties_here"] spWeighed := by
  obtain ⟨f_l_take, fd_l_take, G_l_take, g_l_take, k_l_take, b_l_take⟩ := D_l_take
  refine F.ok sc_l_weighed (fun vs H Q E h => ?_) (fun cdv A outer s H vs Q E hr h => ?_)
  · obtain ⟨d, c, t, us, rfl, _⟩ := h
    rfl
  · obtain ⟨d, c, t, us, rfl, hD, ht, lus, q⟩ := h
    refine ⟨_, (pss_cons (ps_set (i := 2) sc_l_weighed.nd rfl (.inr rfl) (pe_call G_l_take (hr.mono (by decide)) (by rfl) g_l_take k_l_take b_l_take .nil pass0 (pa_cons (pv 0) (pa_cons pe_int pa_nil))))
      (pss_one (ps_ret (pe_callTy call_tuple_of (by rfl) M.tuple (by decide +kernel) (pa_cons (pe_lc (own := [("_law_tie", 3)]) (g := (gName 3)) (tt := tYes) rfl sc_l_weighed.nd (pi_tup (pv 1)) (blkOk_by (N := N_l_weighed) (sc := defScope s_l_weighed) (own := [("_law_tie", 3)]) (by decide +kernel)) (fun _ _ _ _ _ => (pg_name (i := 3) sc_l_weighed.nd rfl (.inl rfl))) (fun _ _ _ _ _ => pts_nil) (fun _ _ _ _ _ => (pe_op op_add pe_int (pe_ix (r := rIxL K) ix_list (pe_lst (pa_cons (pe_call G_l_take (hr.mono (by decide)) (by rfl) g_l_take k_l_take b_l_take .nil pass0 (pa_cons (pv 0) (pa_cons pe_int pa_nil))) (pa_cons (pe_call G_l_take (hr.mono (by decide)) (by rfl) g_l_take k_l_take b_l_take .nil pass0 (pa_cons (pv 0) (pa_cons (pe_op op_pow pe_int pe_int) pa_nil))) pa_nil))) (pv 2) (fun _ _ => rfl))))) pa_nil))))), ?_⟩
    have hm : (10 : Int) ^ (9 : Int).toNat = 1000000000 := by decide
    refine ⟨.ref d, rfl, d, c, 2, rfl, hD, by decide, by decide, fun way H1 a1 b1 D1 K1 => ?_⟩
    obtain ⟨td, tc⟩ := hD.tn ht
    have ht1 := K1 _ _ td tc ht
    refine ⟨.ref t, rfl, t, rfl, ⟨_, SqT.of ht1⟩, fun Z nZ => ?_⟩
    obtain ⟨zd, zc⟩ := D1.ned nZ
    have nZ0 := K1.free nZ zd zc
    refine lc_tup (xs := us) (fun j H' => ∃ ws : List Int, H' Z = some (.lst (ws.map V.int)) ∧ ws.length = j ∧ (∀ x ∈ ws, 1 ≤ x ∧ x ≤ 10 ^ 9) ∧ Deck H' d c ∧ Kp d c H H') ⟨[], upd_same, rfl, fun x hx => (by simp at hx), D1.new nZ, K1.trans (Kp.new nZ)⟩ (fun j H' _ h => by
      obtain ⟨ws, _, _, _, _, k⟩ := h
      exact SqT.of (k _ _ td tc ht)) ?_ ?_
    · rintro j x H2 ex ⟨ws, hZ, lw, hw, D2, K2⟩
      have jl := (List.getElem?_eq_some_iff.mp ex).1
      refine ⟨rfl, .ref d, rfl, d, c, 6, rfl, D2, by decide, by decide, fun v1 H3 a3 b3 D3 K3 => ?_⟩
      refine ⟨.ref d, rfl, 10, 9, rfl, rfl, ⟨by decide, by decide, by decide⟩, d, c, _, rfl, D3, by decide, by decide, fun v2 H4 a4 b4 D4 K4 => ?_⟩
      rw [hm] at b4
      have hZ4 := K4 _ _ zd zc (K3 _ _ zd zc hZ)
      refine ⟨by show 2 ≤ sizeLine; decide, fun l nl => ?_⟩
      have hZ5 := same_new (o := .lst [.int v1, .int v2]) nl _ _ hZ4
      have D5 := D4.new (o := .lst [.int v1, .int v2]) nl
      have K5 := ((K2.trans K3).trans K4).trans (Kp.new (o := .lst [.int v1, .int v2]) nl)
      have hl5 : (upd H4 l (.lst [.int v1, .int v2])) l = some (.lst [.int v1, .int v2]) := upd_same
      generalize upd H4 l (.lst [.int v1, .int v2]) = H5 at hZ5 D5 K5 hl5
      obtain ⟨y, ey, y0, y1⟩ : ∃ y, atI [V.int v1, V.int v2] way = some (.int y) ∧ 0 ≤ y ∧ y < 10 ^ 9 := by
        have h01 : way = 0 ∨ way = 1 := by omega
        rcases h01 with rfl | rfl
        · exact ⟨v1, rfl, a3, by omega⟩
        · exact ⟨v2, rfl, a4, by omega⟩
      refine ⟨.int way, rfl, l, _, way, .int y, rfl, rfl, SqL.of hl5, ey, 1, y, rfl, rfl, _, hZ5, by rw [List.length_map]; exact small1000 (by omega), ws ++ [1 + y], by rw [upd_same, List.map_append]; rfl, by rw [List.length_append, lw]; rfl, fun z hz => ?_, D5.mut zd zc, K5.mut nZ0⟩
      rcases List.mem_append.mp hz with h | h
      · exact hw z h
      · rw [List.mem_singleton.mp h]
        omega
    · rintro H2 ⟨ws, hZ, lw, hw, D2, K2⟩
      refine ⟨Z, _, rfl, .inl ⟨SqL.of hZ, fun r nr => ?_⟩⟩
      exact q r ws _ upd_same lw hw (D2.new nr) (K2.trans (Kp.new nr))
end
section
variable {P : Program} {w : World} {K : PySem.W.Frag} {mg : Str → Option Value} {base : Heap}
set_option maxHeartbeats 4000000 in
theorem ok_l_least {f : Addr} {fd : FuncData} {Ps : List Addr} (F : Fun K "_law_least" "_law_least" s_l_least f fd) (M : Free mg) (D_least_mend : Df P w K mg base 7 "least_mend" ["web", "weights"] (spLeastMend Ps)) (D_mend_weight : Df P w K mg base 3 "mend_weight" ["weights", "ties"] (spMend Ps)) (D_mend_holds : Df P w K mg base 5 "mend_holds" ["web", "thing"] (spMendHolds Ps)) (D_paper_of : Df P w K mg base 13 "paper_of" ["web", "weights"] (spPaperOf Ps)) (D_shown_by : Df P w K mg base 55 "shown_by" ["web", "weights", "thing"] (spShownBy Ps 16)) : FnOk P w K mg base CX0 56 f fd ["_law_web", "_law_weights"] (spLst88 Ps) := by
  obtain ⟨f_least_mend, fd_least_mend, G_least_mend, g_least_mend, k_least_mend, b_least_mend⟩ := D_least_mend
  obtain ⟨f_mend_weight, fd_mend_weight, G_mend_weight, g_mend_weight, k_mend_weight, b_mend_weight⟩ := D_mend_weight
  obtain ⟨f_mend_holds, fd_mend_holds, G_mend_holds, g_mend_holds, k_mend_holds, b_mend_holds⟩ := D_mend_holds
  obtain ⟨f_paper_of, fd_paper_of, G_paper_of, g_paper_of, k_paper_of, b_paper_of⟩ := D_paper_of
  obtain ⟨f_shown_by, fd_shown_by, G_shown_by, g_shown_by, k_shown_by, b_shown_by⟩ := D_shown_by
  refine F.ok sc_l_least (fun vs H Q E h => ?_) (fun cdv A outer s H vs Q E hr h => ?_)
  · obtain ⟨wv, gw, n, ts, ws, rfl, _⟩ := h
    rfl
  · obtain ⟨wv, gw, n, ts, ws, rfl, hW, ok, n8, t60, hG, lw, w1, hT, q⟩ := h
    refine ⟨_, (pss_cons (ps_set (i := 2) sc_l_least.nd rfl (.inl rfl) (pe_call G_least_mend (hr.mono (by decide)) (by rfl) g_least_mend k_least_mend b_least_mend .nil pass0 (pa_cons (pv 0) (pa_cons (pv 1) pa_nil))))
      (pss_cons (ps_if (PW.pt (pw_or (pt_not (pt_val (pe_callB call_isi (by rfl) M.isinstance (by decide +kernel) (pa_cons (pv 2) (pa_cons (pe_bltn (v := .ty "tuple") (by rfl) M.tuple (by decide +kernel) rfl) pa_nil))))) (pw_or (pt_cmpR op_ne (pe_callB call_len_seq (by rfl) M.len PySem.boot_len (pa_cons (pv 2) pa_nil)) pe_int (nomark _)) (pw_or (pt_val (pe_callB call_isi (by rfl) M.isinstance (by decide +kernel) (pa_cons (pe_ix ix_tup (pv 2) pe_int (fun _ _ => rfl)) (pa_cons (pe_bltn (v := .ty "bool") (by rfl) M.bool (by decide +kernel) rfl) pa_nil)))) (pw_or1 (pt_not (pt_val (pe_callB call_isi (by rfl) M.isinstance (by decide +kernel) (pa_cons (pe_ix ix_tup (pv 2) pe_int (fun _ _ => rfl)) (pa_cons (pe_bltn (v := .ty "int") (by rfl) M.int (by decide +kernel) rfl) pa_nil))))))))))
        (pss_one (ps_ret (pe_un un_neg pe_int)))
        pss_nil)
      (pss_cons (ps_if (PW.pt (pw_or (pt_cmpR op_isnot_bl (pe_call G_mend_holds (hr.mono (by decide)) (by rfl) g_mend_holds k_mend_holds b_mend_holds .nil pass0 (pa_cons (pv 0) (pa_cons (pe_ix ix_tup (pv 2) pe_int (fun _ _ => rfl)) pa_nil))) pe_bl (nomark _)) (pw_or1 (pt_cmpR op_ne (pe_call G_mend_weight (hr.mono (by decide)) (by rfl) g_mend_weight k_mend_weight b_mend_weight .nil pass0 (pa_cons (pv 1) (pa_cons (pe_ix ix_tup (pv 2) pe_int (fun _ _ => rfl)) pa_nil))) (pe_ix ix_tup (pv 2) pe_int (fun _ _ => rfl)) (nomark _)))))
        (pss_one (ps_ret (pe_un un_neg pe_int)))
        pss_nil)
      (pss_cons (ps_if (pt_cmpR op_ne (pe_call G_shown_by (hr.mono (by decide)) (by rfl) g_shown_by k_shown_by b_shown_by .nil pass0 (pa_cons (pv 0) (pa_cons (pv 1) (pa_cons (pe_call G_paper_of (hr.mono (by decide)) (by rfl) g_paper_of k_paper_of b_paper_of .nil pass0 (pa_cons (pv 0) (pa_cons (pv 1) pa_nil))) pa_nil)))) (pe_ix ix_tup (pv 2) pe_int (fun _ _ => rfl)) (nomark _))
        (pss_one (ps_ret (pe_un un_neg pe_int)))
        pss_nil)
      (pss_one (ps_ret (pe_ix ix_tup (pv 2) pe_int (fun _ _ => rfl)))))))), ?_⟩
    have few := ok.few
    have h8 : ∀ P ∈ partsTo ts n n, oddF ts P = true → P.length ≤ 8 := fun P hP _ => by have := part_few hP; omega
    have g1 := gW_ge w1 lw
    have hwt := wts_of (m := ts.length) hG lw
    refine ⟨wv, rfl, .ref gw, rfl, wv, .ref gw, n, ts, gW ws, rfl, hW, ok, h8, hwt, g1, hT, fun v c xs H1 k1 told hv => ?_⟩
    obtain ⟨a, b, rfl, ha, hb⟩ := hv
    have T1 : Tabs Ps H1 := k1.tab
    have lv : LeastV ts (gW ws) (rng ts.length) (sumW (gW ws) (badF ts c (rng ts.length))) := ⟨⟨c, rfl⟩, told.le⟩
    have bl : (badF ts c (rng ts.length)).length ≤ 60 := by
      have := List.length_filter_le (fun e => brkF c (tieAt ts e)) (rng ts.length)
      rw [rng_length] at this
      unfold badF
      omega
    have brg : ∀ x ∈ badF ts c (rng ts.length), 0 ≤ x ∧ x < (ts.length : Int) := fun x hx => mem_rng.mp (List.mem_filter.mp hx).1
    have bpw : (badF ts c (rng ts.length)).Pairwise (· < ·) := badF_rising ts c _
    have kb := keep_brk (ts := ts) (c := c)
    generalize hB : badF ts c (rng ts.length) = B at hb lv bl brg bpw kb ha
    have hb : H1 b = some (.tup (B.map V.int)) := hb
    have ha : H1 a = some (.tup [.int (sumW (gW ws) B), .ref b]) := ha
    generalize hS : sumW (gW ws) B = S at ha lv
    obtain ⟨t1, h1, e1⟩ := kn_tup (K := K) (H := H1) (v := .ref a) (.inr (.inl ⟨_, ha⟩))
    rw [isT_of ha] at e1
    obtain ⟨t2, h2, e2⟩ := kn_bool (K := K) (H := H1) (v := .int S) True.intro
    obtain ⟨t3, h3, e3⟩ := kn_int (K := K) (H := H1) (v := .int S) True.intro
    refine ⟨.ref a, rfl, .ref a, _, t1, _, _, rfl, .ty "tuple", h1, e1, _, rfl, ?_⟩
    refine ⟨.ref a, rfl, a, _, rfl, .inr (SqT.of ha), rfl, _, rfl, ?_⟩
    refine ⟨.ref a, rfl, a, _, 0, .int S, rfl, rfl, SqT.of ha, rfl, .int S, _, t2, _, _, rfl, .ty "bool", h2, e2, _, rfl, ?_⟩
    refine ⟨.ref a, rfl, a, _, 0, .int S, rfl, rfl, SqT.of ha, rfl, .int S, _, t3, _, _, rfl, .ty "int", h3, e3, _, rfl, ?_⟩
    have rowB : RowK H1 (.ref b) := ⟨.inr (.inl ⟨_, hb⟩), fun xs e => by
      rw [parts_of' hb] at e
      cases e
      refine ⟨fun x hx => ?_, by rw [List.length_map]; omega⟩
      obtain ⟨i, _, rfl⟩ := List.mem_map.mp hx
      exact True.intro⟩
    have mB : mendB H1 n ts (.ref b) = true := by
      unfold mendB
      rw [parts_of' hb]
      show (riseB H1 ts.length (.ref b) && noOdd (keepTo ts ((B.map V.int).map toI) ts.length) n) = true
      rw [toI_map, noOdd_true (brk_no_odd kb)]
      rw [rise_of hb brg bpw]
      rfl
    refine ⟨wv, rfl, .ref a, rfl, a, _, 1, .ref b, rfl, rfl, SqT.of ha, rfl, wv, .ref b, n, ts, rfl, hW.tk (k1.tk hT), ok, rowB, T1, fun H2 k2 => ?_⟩
    rw [mB]
    refine ⟨_, _, rfl, rfl, _, rfl, ?_⟩
    have k12 := k1.trans k2
    have T2 : Tabs Ps H2 := k2.tab
    have ha2 := k2.tup T1 ha
    have hb2 := k2.tup T1 hb
    refine ⟨.ref gw, rfl, .ref a, rfl, a, _, 1, .ref b, rfl, rfl, SqT.of ha2, rfl, .ref gw, b, B, gW ws, rfl, .inl hb2, (hwt.tk (k12.tk hT)).sub (fun x hx => mem_rng.mpr (brg x hx)), T2, fun H3 k3 => ?_⟩
    have k13 := k12.trans k3
    have T3 : Tabs Ps H3 := k3.tab
    have ha3 := k3.tup T2 ha2
    refine ⟨.ref a, rfl, a, _, 0, .int S, rfl, rfl, SqT.of ha3, rfl, rfl, _, rfl, ?_⟩
    rw [hS, decide_eq_true rfl]
    refine ⟨wv, rfl, .ref gw, rfl, wv, rfl, .ref gw, rfl, wv, .ref gw, n, ts, gW ws, rfl, hW.tk (k13.tk hT), ok, h8, hwt.tk (k13.tk hT), T3, fun pv H4 k4 hpv => ?_⟩
    have k14 := k13.trans k4
    have T4 : Tabs Ps H4 := k4.tab
    obtain ⟨pap, W, lW, shw⟩ := paper_shows (lim := limW (gW ws) ts.length) ok (by omega) g1 h8 hpv (limW_len _ _) (fun e he => by rw [lim_at e he]; exact Int.le_refl _)
    refine ⟨wv, .ref gw, pv, n, ts, gW ws, rfl, hW.tk (k14.tk hT), ok, by omega, hwt.tk (k14.tk hT), pap, T4, fun H5 k5 => ?_⟩
    rw [shw]
    have ha5 := k5.tup T4 (k4.tup T3 ha3)
    have eW : W = S := lW.one lv
    refine ⟨.ref a, rfl, a, _, 0, .int S, rfl, rfl, SqT.of ha5, rfl, rfl, _, rfl, ?_⟩
    rw [eW]
    show (if (!decide (V.int S = V.int S)) = true then _ else _)
    rw [decide_eq_true rfl]
    have mz := (minz_of lw).mp lv
    refine ⟨.ref a, rfl, a, _, 0, .int S, rfl, rfl, SqT.of ha5, rfl, q S H5 (k14.trans k5) mz (mz.nn fun z hz => ?_)⟩
    have := w1 z.2 (List.of_mem_zip (show (z.1, z.2) ∈ ts.zip ws from hz)).2
    omega
end
/-! ### k88: two webs put together -/
def clF (called : List Int) (x : Int) : Int := called.getD x.toNat 0
def bothT (n1 : Nat) (ts us : List Tie) : List Tie := ts ++ us.map (mapT ((n1 : Int) + ·))
def spBoth : Sp := fun vs H Q _ => ∃ (d c : Addr) (v1 v2 : V) (g1 g2 : Addr) (n1 n2 : Nat) (ts us : List Tie) (ws xs : List Int), vs = [.ref d, v1, v2, .ref g1, .ref g2] ∧ Deck H d c ∧ WebAt H v1 n1 ts ∧ WebOk n1 ts ∧ WebAt H v2 n2 us ∧ WebOk n2 us ∧ n1 ≤ 4 ∧ n2 ≤ 4 ∧ ts.length ≤ 20 ∧ us.length ≤ 20 ∧ H g1 = some (.tup (ws.map V.int)) ∧ ws.length = ts.length ∧ H g2 = some (.tup (xs.map V.int)) ∧ xs.length = us.length ∧
  ∀ o wv gw rw (called rows : List Int) H', H' o = some (.tup [wv, .ref gw, .ref rw]) → WebAt H' wv ((n1 + n2 : Nat) : Int) (rows.map fun k => mapT (clF called) (tieAt (bothT n1 ts us) k)) → H' gw = some (.tup ((rows.map fun k => gW (ws ++ xs) k).map V.int)) → H' rw = some (.lst (rows.map V.int)) →
    called.Perm (rng (n1 + n2)) → rows.Perm (rng (bothT n1 ts us).length) → H rw = none → Deck H' d c → Kp d c H H' → Q (.ref o) H'
theorem paired_append {α β : Type} {F : α → β → Prop} : ∀ {l l' : List α} {m m' : List β}, Paired F l m → Paired F l' m' → Paired F (l ++ l') (m ++ m')
  | _, _, _, _, .nil, h => h
  | _, _, _, _, .cons r t, h => .cons r (paired_append t h)
theorem Deck.tn' {H : Hp} {d c a : Addr} {xs : List V} (D : Deck H d c) (h : H a = some (.tup xs)) : a ≠ d ∧ a ≠ c := D.tn h
theorem both_ok {n1 n2 : Nat} {ts us : List Tie} (h1 : ∀ t ∈ ts, TieOk n1 t) (h2 : ∀ t ∈ us, TieOk n2 t) : ∀ t ∈ bothT n1 ts us, TieOk ((n1 + n2 : Nat) : Int) t := fun t ht => by
  rcases List.mem_append.mp ht with h | h
  · obtain ⟨a, b, c, d, e⟩ := h1 t h
    exact ⟨a, by omega, c, by omega, e⟩
  · obtain ⟨s, hs, rfl⟩ := List.mem_map.mp h
    obtain ⟨a, b, c, d, e⟩ := h2 s hs
    refine ⟨?_, ?_, ?_, ?_, ?_⟩
    · show 0 ≤ (n1 : Int) + s.one; omega
    · show (n1 : Int) + s.one < _; omega
    · show 0 ≤ (n1 : Int) + s.other; omega
    · show (n1 : Int) + s.other < _; omega
    · show (n1 : Int) + s.one ≠ (n1 : Int) + s.other; omega
section
variable {P : Program} {w : World} {K : PySem.W.Frag} {mg : Str → Option Value} {base : Heap}
set_option maxHeartbeats 4000000 in
theorem ok_l_both {f : Addr} {fd : FuncData} (F : Fun K "_law_both" "_law_both" s_l_both f fd) (M : Free mg) (D_l_shuffled : Df P w K mg base 2 "_law_shuffled" ["_law_deck_here", "_law_many"] spShuf) : FnOk P w K mg base CX0 3 f fd ["_law_deck_here", "_law_one", "_law_other", "_law_mine", "_law_theirs"] spBoth := by
  obtain ⟨f_l_shuffled, fd_l_shuffled, G_l_shuffled, g_l_shuffled, k_l_shuffled, b_l_shuffled⟩ := D_l_shuffled
  refine F.ok sc_l_both (fun vs H Q E h => ?_) (fun cdv A outer s H vs Q E hr h => ?_)
  · obtain ⟨d, c, v1, v2, g1, g2, n1, n2, ts, us, ws, xs, rfl, _⟩ := h
    rfl
  · obtain ⟨d, c, v1, v2, g1, g2, n1, n2, ts, us, ws, xs, rfl, hD, hW, ok, hU, ok2, n4, n4b, l20, l20b, hg, lw, hx, lx, q⟩ := h
    refine ⟨_, (pss_cons (ps_set (i := 5) sc_l_both.nd rfl (.inl rfl) (pe_op op_add (pe_ix ix_tup (pv 1) pe_int (fun _ _ => rfl)) (pe_ix ix_tup (pv 2) pe_int (fun _ _ => rfl))))
      (pss_cons (ps_set (i := 6) sc_l_both.nd rfl (.inr rfl) (pe_call G_l_shuffled (hr.mono (by decide)) (by rfl) g_l_shuffled k_l_shuffled b_l_shuffled .nil pass0 (pa_cons (pv 0) (pa_cons (pv 5) pa_nil))))
      (pss_cons (ps_set (i := 7) sc_l_both.nd rfl (.inr rfl) (pe_op op_cat (pe_callTy call_list_of (by rfl) M.list (by decide +kernel) (pa_cons (pe_ix ix_tup (pv 1) pe_int (fun _ _ => rfl)) pa_nil)) (pe_lc (own := [("_law_a", 8), ("_law_b", 9), ("_law_kind", 10)]) (g := (gTup K 3 (gCons (gName 8) (gCons (gName 9) (gCons (gName 10) gNil))))) (tt := tYes) rfl sc_l_both.nd (pi_tup (pe_ix ix_tup (pv 2) pe_int (fun _ _ => rfl))) (blkOk_by (N := N_l_both) (sc := defScope s_l_both) (own := [("_law_a", 8), ("_law_b", 9), ("_law_kind", 10)]) (by decide +kernel)) (fun _ _ _ _ _ => (pg_tup rfl (pgs_cons (pg_name (i := 8) sc_l_both.nd rfl (.inl rfl)) (pgs_cons (pg_name (i := 9) sc_l_both.nd rfl (.inl rfl)) (pgs_cons (pg_name (i := 10) sc_l_both.nd rfl (.inl rfl)) pgs_nil))))) (fun _ _ _ _ _ => pts_nil) (fun _ _ _ _ _ => (pe_tup (pa_cons (pe_op op_add (pe_ix (r := rIxT K) ix_tup (pv 1) pe_int (fun _ _ => rfl)) (pv 8)) (pa_cons (pe_op op_add (pe_ix (r := rIxT K) ix_tup (pv 1) pe_int (fun _ _ => rfl)) (pv 9)) (pa_cons (pv 10) pa_nil))))))))
      (pss_cons (ps_set (i := 11) sc_l_both.nd rfl (.inl rfl) (pe_call G_l_shuffled (hr.mono (by decide)) (by rfl) g_l_shuffled k_l_shuffled b_l_shuffled .nil pass0 (pa_cons (pv 0) (pa_cons (pe_callB call_len_seq (by rfl) M.len PySem.boot_len (pa_cons (pv 7) pa_nil)) pa_nil))))
      (pss_cons (ps_set (i := 12) sc_l_both.nd rfl (.inl rfl) (pe_tup (pa_cons (pv 5) (pa_cons (pe_callTy call_tuple_of (by rfl) M.tuple (by decide +kernel) (pa_cons (pe_lc (own := [("_law_k", 13)]) (g := (gName 13)) (tt := tYes) rfl sc_l_both.nd (pi_list (pv 11)) (blkOk_by (N := N_l_both) (sc := defScope s_l_both) (own := [("_law_k", 13)]) (by decide +kernel)) (fun _ _ _ _ _ => (pg_name (i := 13) sc_l_both.nd rfl (.inl rfl))) (fun _ _ _ _ _ => pts_nil) (fun _ _ _ _ _ => (pe_tup (pa_cons (pe_ix (r := rIxL K) ix_list (pv 6) (pe_ix (r := rIxT K) ix_tup (pe_ix (r := rIxL K) ix_list (pv 7) (pv 13) (fun _ _ => rfl)) pe_int (fun _ _ => rfl)) (fun _ _ => rfl)) (pa_cons (pe_ix (r := rIxL K) ix_list (pv 6) (pe_ix (r := rIxT K) ix_tup (pe_ix (r := rIxL K) ix_list (pv 7) (pv 13) (fun _ _ => rfl)) pe_int (fun _ _ => rfl)) (fun _ _ => rfl)) (pa_cons (pe_ix (r := rIxT K) ix_tup (pe_ix (r := rIxL K) ix_list (pv 7) (pv 13) (fun _ _ => rfl)) pe_int (fun _ _ => rfl)) pa_nil)))))) pa_nil)) pa_nil))))
      (pss_one (ps_ret (pe_tup (pa_cons (pv 12) (pa_cons (pe_callTy call_tuple_of (by rfl) M.tuple (by decide +kernel) (pa_cons (pe_lc (own := [("_law_k", 13)]) (g := (gName 13)) (tt := tYes) rfl sc_l_both.nd (pi_list (pv 11)) (blkOk_by (N := N_l_both) (sc := defScope s_l_both) (own := [("_law_k", 13)]) (by decide +kernel)) (fun _ _ _ _ _ => (pg_name (i := 13) sc_l_both.nd rfl (.inl rfl))) (fun _ _ _ _ _ => pts_nil) (fun _ _ _ _ _ => (pe_ix (r := rIxT K) ix_tup (pe_op op_catU (pv 3) (pv 4)) (pv 13) (fun _ _ => rfl)))) pa_nil)) (pa_cons (pv 11) pa_nil))))))))))), ?_⟩
    obtain ⟨a1, b1, ps, rfl, ha1, hb1, hp⟩ := id hW
    obtain ⟨a2, b2, qs, rfl, ha2, hb2, hq⟩ := id hU
    have lps : ps.length = ts.length := Paired.length hp
    have lqs : qs.length = us.length := Paired.length hq
    refine ⟨.ref a1, rfl, a1, _, 0, .int n1, rfl, rfl, SqT.of ha1, rfl, .ref a2, rfl, a2, _, 0, .int n2, rfl, rfl, SqT.of ha2, rfl, n1, n2, rfl, rfl, ?_⟩
    refine ⟨.ref d, rfl, .int ((n1 : Int) + n2), rfl, d, c, n1 + n2, rfl, hD, by omega, fun L called H1 hL pc Lne nL D1 K1 => ?_⟩
    have k1 := K1.tk hD
    have ha1' := k1 _ _ ha1
    have ha2' := k1 _ _ ha2
    have hb1' := k1 _ _ hb1
    have hb2' := k1 _ _ hb2
    -- the ties of both
    refine ⟨.ref a1, rfl, a1, _, 1, .ref b1, rfl, rfl, SqT.of ha1', rfl, b1, _, rfl, .inr (SqT.of hb1'), fun l2 nl2 => ?_⟩
    have s2 := same_new (o := .lst ps) nl2
    have hl2 : (upd H1 l2 (.lst ps)) l2 = some (.lst ps) := upd_same
    generalize upd H1 l2 (.lst ps) = H2 at s2 hl2
    refine ⟨.ref a2, rfl, a2, _, 1, .ref b2, rfl, rfl, SqT.of (s2 _ _ ha2'), rfl, b2, rfl, ⟨_, SqT.of (s2 _ _ hb2')⟩, fun Z nZ => ?_⟩
    refine lc_tup (xs := qs) (fun j H' => ∃ zs : List V, H' Z = some (.lst zs) ∧ Paired (TieV H') zs ((us.take j).map (mapT ((n1 : Int) + ·))) ∧ Same H2 H') ⟨[], upd_same, .nil, same_new nZ⟩ (fun j H' _ h => by
      obtain ⟨zs, _, _, s⟩ := h
      exact SqT.of (s _ _ (s2 _ _ hb2'))) ?_ ?_
    · rintro j x H3 ex ⟨zs, hZ, hzs, s3⟩
      obtain ⟨t, et, a, rfl, ha⟩ := Paired.at hq ex
      have jl := (List.getElem?_eq_some_iff.mp ex).1
      have lz : zs.length = j := by rw [Paired.length hzs, List.length_map, List.length_take]; omega
      have ha3 := s3 _ _ (s2 _ _ (k1 _ _ ha))
      have ha13 := s3 _ _ (s2 _ _ ha1')
      refine ⟨a, _, rfl, SqT.of ha3, rfl, _, _, rfl, _, _, rfl, _, _, rfl, rfl, rfl, ?_⟩
      refine ⟨.ref a1, rfl, a1, _, 0, .int n1, rfl, rfl, SqT.of ha13, rfl, .int t.one, rfl, n1, t.one, rfl, rfl, .ref a1, rfl, a1, _, 0, .int n1, rfl, rfl, SqT.of ha13, rfl, .int t.other, rfl, n1, t.other, rfl, rfl, .str (kindS t.foe), rfl, by show 3 ≤ sizeLine; decide, fun o no => ?_⟩
      have s4 := same_new (o := .tup [.int ((n1 : Int) + t.one), .int ((n1 : Int) + t.other), .str (kindS t.foe)]) no
      have hZ4 := s4 _ _ hZ
      refine ⟨_, hZ4, small1000 (by omega), zs ++ [.ref o], upd_same, ?_, Same.mut (s3.trans s4) nZ⟩
      rw [List.take_add_one, et, List.map_append]
      exact Paired.snoc (ties_tk (tk_lst hZ4) (ties_tk (Same.tk s4) hzs)) ⟨o, rfl, tk_lst hZ4 _ _ upd_same⟩
    rintro H3 ⟨zs, hZ, hzs, s3⟩
    rw [List.take_of_length_le (by omega)] at hzs
    have lzs : zs.length = us.length := by rw [Paired.length hzs, List.length_map]
    refine ⟨l2, Z, ps, zs, rfl, rfl, s3 _ _ hl2, hZ, ?_, fun M nM => ?_⟩
    · exact Nat.le_of_lt (small1000 (by omega))
    have s4 := same_new (o := .lst (ps ++ zs)) nM
    have hM : (upd H3 M (.lst (ps ++ zs))) M = some (.lst (ps ++ zs)) := upd_same
    have s14 := (s2.trans s3).trans s4
    have pT : Paired (TieV (upd H3 M (.lst (ps ++ zs)))) (ps ++ zs) (bothT n1 ts us) := paired_append (ties_tk (k1.trans (Same.tk s14)) hp) (ties_tk (Same.tk s4) hzs)
    have D4 := D1.same s14
    have K4 := K1.trans (Kp.same8 (d := d) (c := c) s14)
    have hL4 := s14 _ _ hL
    have M4 := (D1.same (s2.trans s3)).ned nM
    have ML : M ≠ L := fun z => by
      have := s3 _ _ (s2 _ _ hL)
      rw [z, this] at nM
      cases nM
    generalize upd H3 M (.lst (ps ++ zs)) = H4 at hM pT D4 K4 hL4
    clear hL hl2 hZ hzs s2 s3 s4 s14 nZ nl2 nM D1 K1 k1 ha1' ha2' hb1' hb2'
    have lT : (ps ++ zs).length = (bothT n1 ts us).length := Paired.length pT
    have lT2 : (bothT n1 ts us).length = ts.length + us.length := by
      unfold bothT
      rw [List.length_append, List.length_map]
    have okT := both_ok ok.ok ok2.ok
    generalize hTT : bothT n1 ts us = T at pT lT lT2 okT q
    -- the row
    refine ⟨.ref d, rfl, .ref M, rfl, M, _, rfl, .inl (SqL.of hM), d, c, T.length, by rw [lT]; rfl, D4, by omega, fun R rows H5 hR pr Rne nR D5 K5 => ?_⟩
    have hM5 := K5 _ _ M4.1 M4.2 hM
    have hL5 := K5 _ _ Lne.1 Lne.2 hL4
    have pT5 := ties_tk (K5.tk D4) pT
    have K05 := K4.trans K5
    clear hM hL4 pT
    have lrow : rows.length = T.length := by rw [pr.length_eq, rng_length]
    have rrow : ∀ k ∈ rows, 0 ≤ k ∧ k < (T.length : Int) := fun k hk => mem_rng.mp (pr.mem_iff.mp hk)
    have lcal : called.length = n1 + n2 := by rw [pc.length_eq, rng_length]
    have cal : ∀ x : Int, 0 ≤ x → x < ((n1 + n2 : Nat) : Int) → atI (called.map V.int) x = some (.int (clF called x)) := fun x h0 h1 => by
      have hl : x.toNat < called.length := by omega
      refine atI_of h0 ?_
      unfold clF
      rw [List.getElem?_map, List.getD_eq_getElem?_getD, List.getElem?_eq_getElem hl]
      rfl
    refine ⟨.int ((n1 : Int) + n2), rfl, .ref R, rfl, R, rfl, ⟨_, SqL.of hR⟩, fun Y nY => ?_⟩
    refine lc_list (xs := rows.map V.int) (fun j H' => ∃ zs : List V, H' Y = some (.lst zs) ∧ Paired (TieV H') zs ((rows.take j).map fun k => mapT (clF called) (tieAt T k)) ∧ Same H5 H') ⟨[], upd_same, .nil, same_new nY⟩ (fun j H' _ h => by
      obtain ⟨zs, _, _, s⟩ := h
      exact SqL.of (s _ _ hR)) ?_ ?_
    · rintro j x H6 ex ⟨zs', hY, hzs, s6⟩
      rw [List.getElem?_map] at ex
      obtain ⟨k, hk, rfl⟩ := Option.map_eq_some_iff.mp ex
      have jl := (List.getElem?_eq_some_iff.mp hk).1
      have lz : zs'.length = j := by rw [Paired.length hzs, List.length_map, List.length_take]; omega
      obtain ⟨k0, k1⟩ := rrow k (List.mem_of_getElem? hk)
      obtain ⟨u, eu, a, rfl, ha⟩ := Paired.at' pT5 (tieAt_get k0 k1)
      obtain ⟨o1, o2, o3, o4, _⟩ := okT _ (List.mem_of_getElem? (tieAt_get k0 k1))
      generalize htt : tieAt T k = t at ha o1 o2 o3 o4
      have ha6 := s6 _ _ ha
      have hL6 := s6 _ _ hL5
      have hM6 := s6 _ _ hM5
      have em := atI_of k0 eu
      refine ⟨rfl, .ref L, rfl, .ref M, rfl, .int k, rfl, M, _, k, .ref a, rfl, rfl, SqL.of hM6, em, a, _, 0, .int t.one, rfl, rfl, SqT.of ha6, rfl, L, _, t.one, _, rfl, rfl, SqL.of hL6, cal _ o1 o2, ?_⟩
      refine ⟨.ref L, rfl, .ref M, rfl, .int k, rfl, M, _, k, .ref a, rfl, rfl, SqL.of hM6, em, a, _, 1, .int t.other, rfl, rfl, SqT.of ha6, rfl, L, _, t.other, _, rfl, rfl, SqL.of hL6, cal _ o3 o4, ?_⟩
      refine ⟨.ref M, rfl, .int k, rfl, M, _, k, .ref a, rfl, rfl, SqL.of hM6, em, a, _, 2, .str (kindS t.foe), rfl, rfl, SqT.of ha6, rfl, by show 3 ≤ sizeLine; decide, fun o no => ?_⟩
      have s7 := same_new (o := .tup [.int (clF called t.one), .int (clF called t.other), .str (kindS t.foe)]) no
      have hY7 := s7 _ _ hY
      refine ⟨_, hY7, small1000 (by omega), zs' ++ [.ref o], upd_same, ?_, Same.mut (s6.trans s7) nY⟩
      rw [List.take_add_one, hk, List.map_append]
      refine Paired.snoc (ties_tk (tk_lst hY7) (ties_tk (Same.tk s7) hzs)) ⟨o, rfl, ?_⟩
      show _ = some (HO.tup [.int (clF called (tieAt T k).one), .int (clF called (tieAt T k).other), .str (kindS (tieAt T k).foe)])
      rw [htt]
      exact tk_lst hY7 _ _ upd_same
    rintro H6 ⟨zs', hY, hzs, s6⟩
    rw [List.length_map, List.take_length] at hzs
    refine ⟨Y, _, rfl, .inl ⟨SqL.of hY, fun r7 n7 => ⟨by show 2 ≤ sizeLine; decide, fun o8 n8 => ?_⟩⟩⟩
    have s7 := same_new (o := .tup zs') n7
    have s8 := same_new (o := .tup [.int ((n1 : Int) + n2), .ref r7]) n8
    have h7 : (upd (upd H6 r7 (.tup zs')) o8 (.tup [.int ((n1 : Int) + n2), .ref r7])) r7 = some (.tup zs') := s8 _ _ upd_same
    have h8 : (upd (upd H6 r7 (.tup zs')) o8 (.tup [.int ((n1 : Int) + n2), .ref r7])) o8 = some (.tup [.int ((n1 : Int) + n2), .ref r7]) := upd_same
    have web8 : WebAt (upd (upd H6 r7 (.tup zs')) o8 (.tup [.int ((n1 : Int) + n2), .ref r7])) (.ref o8) ((n1 + n2 : Nat) : Int) (rows.map fun k => mapT (clF called) (tieAt T k)) := ⟨o8, r7, zs', rfl, h8, h7, ties_tk (Same.tk (s7.trans s8)) hzs⟩
    have s58 := (s6.trans s7).trans s8
    generalize upd (upd H6 r7 (.tup zs')) o8 (.tup [.int ((n1 : Int) + n2), .ref r7]) = H8 at web8 s58
    clear h7 h8 hY hzs s6 s7 s8
    have hR8 := s58 _ _ hR
    have g1' := s58 _ _ (K05.tk hD _ _ hg)
    have g2' := s58 _ _ (K05.tk hD _ _ hx)
    -- the weights
    refine ⟨.ref o8, rfl, .ref R, rfl, R, rfl, ⟨_, SqL.of hR8⟩, fun X nX => ?_⟩
    refine lc_list (xs := rows.map V.int) (fun j H' => H' X = some (.lst (((rows.take j).map fun k => gW (ws ++ xs) k).map V.int)) ∧ Same H8 H') ⟨upd_same, same_new nX⟩ (fun j H' _ h => SqL.of (h.2 _ _ hR8)) ?_ ?_
    · rintro j x H9 ex ⟨hX, s9⟩
      rw [List.getElem?_map] at ex
      obtain ⟨k, hk, rfl⟩ := Option.map_eq_some_iff.mp ex
      have jl := (List.getElem?_eq_some_iff.mp hk).1
      obtain ⟨k0, k1⟩ := rrow k (List.mem_of_getElem? hk)
      refine ⟨rfl, .ref g1, rfl, .ref g2, rfl, g1, g2, _, _, rfl, rfl, s9 _ _ g1', s9 _ _ g2', ?_, fun r10 H10 s10 h10 => ?_⟩
      · rw [List.length_map, List.length_map]; omega
      rw [← List.map_append] at h10
      have hX10 := s10 _ _ hX
      have ek : atI ((ws ++ xs).map V.int) k = some (.int (gW (ws ++ xs) k)) := gW_at k0 (by rw [List.length_append]; omega)
      refine ⟨.int k, rfl, r10, _, k, _, rfl, rfl, SqT.of h10, ek, _, hX10, ?_, ?_, Same.mut (s9.trans s10) nX⟩
      · rw [List.length_map, List.length_map, List.length_take]
        exact small1000 (by omega)
      · rw [upd_same, List.take_add_one, hk, List.map_append, List.map_append]
        rfl
    rintro H9 ⟨hX, s9⟩
    rw [List.length_map, List.take_length] at hX
    refine ⟨X, _, rfl, .inl ⟨SqL.of hX, fun r10 n10 => ⟨.ref R, rfl, by show 3 ≤ sizeLine; decide, fun o11 n11 => ?_⟩⟩⟩
    have s10 := same_new (o := .tup ((rows.map fun k => gW (ws ++ xs) k).map V.int)) n10
    have s11 := same_new (o := .tup [.ref o8, .ref r10, .ref R]) n11
    have s811 := (s9.trans s10).trans s11
    have s511 := s58.trans s811
    exact q o11 (.ref o8) r10 R called rows _ upd_same (web8.tk (Same.tk s811)) (s11 _ _ upd_same) (s511 _ _ hR) pc pr (K4.free nR Rne.1 Rne.2) (D5.same s511) (K05.trans (Kp.same8 s511))
end
/-! ### k88: two webs put together (mathematics) -/
theorem zip_rng {T : List Tie} {W : List Int} (l : W.length = T.length) : (rng T.length).map (fun k => (tieAt T k, gW W k)) = T.zip W := by
  refine List.ext_getElem? fun i => ?_
  rw [List.getElem?_map]
  by_cases h : i < T.length
  · have e1 : (rng T.length)[i]? = some (i : Int) := by
      unfold rng
      rw [List.getElem?_map, List.getElem?_range h]
      rfl
    have e2 : (T.zip W)[i]? = some (T[i], W[i]) := by
      rw [List.getElem?_zip_eq_some]
      exact ⟨List.getElem?_eq_getElem h, List.getElem?_eq_getElem (by omega)⟩
    have e3 : tieAt T (i : Int) = T[i] := tieAt_of (List.getElem?_eq_getElem h)
    have e4 : gW W (i : Int) = W[i] := by
      unfold gW
      rw [Int.toNat_natCast, List.getD_eq_getElem?_getD, List.getElem?_eq_getElem (by omega)]
      rfl
    rw [e1, e2, ← e3, ← e4]
    rfl
  · rw [List.getElem?_eq_none (by rw [rng_length]; omega), List.getElem?_eq_none (by rw [List.length_zip]; omega)]
    rfl
theorem zip_both {n1 : Nat} {ts us : List Tie} {ws xs : List Int} (l1 : ws.length = ts.length) : (bothT n1 ts us).zip (ws ++ xs) = ts.zip ws ++ (us.zip xs).map fun z => (mapT ((n1 : Int) + ·) z.1, z.2) := by
  unfold bothT
  rw [List.zip_append l1.symm, List.zip_map_left]
  rfl
theorem zip_rows {T : List Tie} {W rows : List Int} {f : Int → Int} : (rows.map fun k => mapT f (tieAt T k)).zip (rows.map fun k => gW W k) = (rows.map fun k => (tieAt T k, gW W k)).map fun z => (mapT f z.1, z.2) := by
  rw [List.map_map]
  induction rows with
  | nil => rfl
  | cons k rows ih =>
    rw [List.map_cons, List.map_cons, List.zip_cons_cons, ih]
    rfl
theorem clF_mem {called : List Int} {n : Nat} (pc : called.Perm (rng n)) {p : Int} (h0 : 0 ≤ p) (h1 : p < n) : (0 ≤ clF called p ∧ clF called p < n) ∧ called.idxOf (clF called p) = p.toNat := by
  have lc : called.length = n := by rw [pc.length_eq, rng_length]
  have hl : p.toNat < called.length := by omega
  have e : clF called p = called[p.toNat] := by
    unfold clF
    rw [List.getD_eq_getElem?_getD, List.getElem?_eq_getElem hl]
    rfl
  have nd : called.Nodup := pc.nodup_iff.mpr ((rng_rising n).imp fun h => by omega)
  rw [e]
  exact ⟨mem_rng.mp (pc.mem_iff.mp (List.getElem_mem hl)), nd.idxOf_getElem _ hl⟩
structure BothW (n1 n2 : Nat) (ts us : List Tie) (ws xs called rows : List Int) : Prop where
  o1 : ∀ t ∈ ts, TieOk n1 t
  o2 : ∀ t ∈ us, TieOk n2 t
  l1 : ws.length = ts.length
  l2 : xs.length = us.length
  pc : called.Perm (rng (n1 + n2))
  pr : rows.Perm (rng (bothT n1 ts us).length)
theorem BothW.tie {n1 n2 : Nat} {ts us : List Tie} {ws xs called rows : List Int} (h : BothW n1 n2 ts us ws xs called rows) : ∀ t ∈ (rows.map fun k => mapT (clF called) (tieAt (bothT n1 ts us) k)), TieOk ((n1 + n2 : Nat) : Int) t := fun t ht => by
  obtain ⟨k, hk, rfl⟩ := List.mem_map.mp ht
  obtain ⟨k0, k1⟩ := mem_rng.mp (h.pr.mem_iff.mp hk)
  obtain ⟨a, b, c, d, e⟩ := both_ok h.o1 h.o2 _ (List.mem_of_getElem? (tieAt_get k0 k1))
  obtain ⟨⟨p1, p2⟩, p3⟩ := clF_mem h.pc a b
  obtain ⟨⟨q1, q2⟩, q3⟩ := clF_mem h.pc c d
  refine ⟨p1, p2, q1, q2, fun z => e ?_⟩
  have z : clF called (tieAt (bothT n1 ts us) k).one = clF called (tieAt (bothT n1 ts us) k).other := z
  rw [z] at p3
  omega
theorem BothW.min {n1 n2 : Nat} {ts us : List Tie} {ws xs called rows : List Int} (h : BothW n1 n2 ts us ws xs called rows) {v u : Int} (hv : MinZ (ts.zip ws) v) (hu : MinZ (us.zip xs) u) : MinZ ((rows.map fun k => mapT (clF called) (tieAt (bothT n1 ts us) k)).zip (rows.map fun k => gW (ws ++ xs) k)) (v + u) := by
  rw [zip_rows]
  have lT : (ws ++ xs).length = (bothT n1 ts us).length := by
    unfold bothT
    rw [List.length_append, List.length_append, List.length_map, h.l1, h.l2]
  have m1 : MinZ ((bothT n1 ts us).zip (ws ++ xs)) (v + u) := by
    rw [zip_both h.l1]
    refine hv.both hu (n := n1) (fun z hz => ?_) (fun z hz => ?_)
    · obtain ⟨_, b, _, d, _⟩ := h.o1 z.1 (List.of_mem_zip (show (z.1, z.2) ∈ ts.zip ws from hz)).1
      exact ⟨b, d⟩
    · obtain ⟨a, _, c, _, _⟩ := h.o2 z.1 (List.of_mem_zip (show (z.1, z.2) ∈ us.zip xs from hz)).1
      exact ⟨a, c⟩
  rw [← zip_rng lT] at m1
  have m2 := m1.perm (h.pr.symm.map fun k => (tieAt (bothT n1 ts us) k, gW (ws ++ xs) k))
  refine m2.map (g := fun x => (called.idxOf x : Nat)) fun z hz => ?_
  obtain ⟨k, hk, rfl⟩ := List.mem_map.mp hz
  obtain ⟨k0, k1⟩ := mem_rng.mp (h.pr.mem_iff.mp hk)
  obtain ⟨a, b, c, d, _⟩ := both_ok h.o1 h.o2 _ (List.mem_of_getElem? (tieAt_get k0 k1))
  have p3 := (clF_mem h.pc a b).2
  have q3 := (clF_mem h.pc c d).2
  constructor
  · show ((called.idxOf (clF called (tieAt (bothT n1 ts us) k).one) : Nat) : Int) = (tieAt (bothT n1 ts us) k).one
    rw [p3]
    omega
  · show ((called.idxOf (clF called (tieAt (bothT n1 ts us) k).other) : Nat) : Int) = (tieAt (bothT n1 ts us) k).other
    rw [q3]
    omega
theorem brk_map (c : Int → Bool) (f : Int → Int) (t : Tie) : brkF c (mapT f t) = brkF (fun x => c (f x)) t := rfl
/-- what is told of both, parted -/
theorem BothW.parted {n1 n2 : Nat} {ts us : List Tie} {ws xs called rows : List Int} (h : BothW n1 n2 ts us ws xs called rows) (c : Int → Bool) {tl : List Int} (ht : tl = (badF (rows.map fun k => mapT (clF called) (tieAt (bothT n1 ts us) k)) c (rng rows.length)).map fun k => rows.getD k.toNat 0) :
    tl.Nodup ∧ (∀ e : Int, e ∈ tl ↔ (0 ≤ e ∧ e < ((bothT n1 ts us).length : Int)) ∧ brkF (fun x => c (clF called x)) (tieAt (bothT n1 ts us) e) = true) := by
  have ndr : rows.Nodup := h.pr.nodup_iff.mpr ((rng_rising _).imp fun h => by omega)
  have gd : ∀ k : Int, 0 ≤ k → k < (rows.length : Int) → ∃ hl : k.toNat < rows.length, rows.getD k.toNat 0 = rows[k.toNat] := fun k h0 h1 => ⟨by omega, by
    rw [List.getD_eq_getElem?_getD, List.getElem?_eq_getElem (by omega)]
    rfl⟩
  have ta : ∀ k : Int, 0 ≤ k → k < (rows.length : Int) → tieAt (rows.map fun k => mapT (clF called) (tieAt (bothT n1 ts us) k)) k = mapT (clF called) (tieAt (bothT n1 ts us) (rows.getD k.toNat 0)) := fun k h0 h1 => by
    obtain ⟨hl, e⟩ := gd k h0 h1
    have : (rows.map fun k => mapT (clF called) (tieAt (bothT n1 ts us) k))[k.toNat]? = some (mapT (clF called) (tieAt (bothT n1 ts us) rows[k.toNat])) := by
      rw [List.getElem?_map, List.getElem?_eq_getElem hl]
      rfl
    rw [e]
    unfold tieAt at this ⊢
    rw [List.getD_eq_getElem?_getD, this]
    rfl
  constructor
  · rw [ht]
    unfold List.Nodup
    rw [List.pairwise_map]
    have pw : (badF (rows.map fun k => mapT (clF called) (tieAt (bothT n1 ts us) k)) c (rng rows.length)).Pairwise (· < ·) := badF_rising _ c _
    refine (List.Pairwise.and_mem.mp pw).imp fun {a b} hab z => ?_
    obtain ⟨ha, hb, lt⟩ := hab
    obtain ⟨a0, a1⟩ := mem_rng.mp (List.mem_filter.mp ha).1
    obtain ⟨b0, b1⟩ := mem_rng.mp (List.mem_filter.mp hb).1
    obtain ⟨hl, e⟩ := gd a a0 a1
    obtain ⟨hl', e'⟩ := gd b b0 b1
    rw [e, e'] at z
    have q1 := ndr.idxOf_getElem a.toNat hl
    have q2 := ndr.idxOf_getElem b.toNat hl'
    rw [z, q2] at q1
    omega
  · intro e
    rw [ht, List.mem_map]
    constructor
    · rintro ⟨k, hk, rfl⟩
      obtain ⟨hk1, hk2⟩ := List.mem_filter.mp hk
      obtain ⟨k0, k1⟩ := mem_rng.mp hk1
      obtain ⟨hl, ek⟩ := gd k k0 k1
      rw [ta k k0 k1] at hk2
      refine ⟨?_, hk2⟩
      rw [ek]
      exact mem_rng.mp (h.pr.mem_iff.mp (List.getElem_mem hl))
    · rintro ⟨er, hb⟩
      have hm : e ∈ rows := h.pr.mem_iff.mpr (mem_rng.mpr er)
      obtain ⟨i, hi⟩ := List.getElem?_of_mem hm
      have il := (List.getElem?_eq_some_iff.mp hi).1
      have ei : rows.getD ((i : Nat) : Int).toNat 0 = e := by
        rw [Int.toNat_natCast, List.getD_eq_getElem?_getD, hi]
        rfl
      refine ⟨(i : Nat), List.mem_filter.mpr ⟨mem_rng.mpr ⟨by omega, by omega⟩, ?_⟩, ei⟩
      rw [ta i (by omega) (by omega), ei]
      exact hb
theorem sorted_is {ys tl bad : List Int} {p : Int → Bool} {g : Int → Int} (pm : ys.Perm ((tl.filter p).map g)) (sn : ys.Pairwise (· ≤ ·)) (nd : tl.Nodup) (gi : ∀ a b, g a = g b → a = b) (pw : bad.Pairwise (· < ·)) (mem : ∀ e, e ∈ bad ↔ ∃ k, k ∈ tl ∧ p k = true ∧ g k = e) : ys = bad := by
  have ndy : ys.Nodup := by
    rw [pm.nodup_iff]
    unfold List.Nodup
    rw [List.pairwise_map]
    exact (nd.filter p).imp fun {a b} h z => h (gi a b z)
  refine rising_ext ?_ pw fun e => ?_
  · have := sn.and ndy
    exact this.imp fun {a b} h => by
      have := h.1
      have := h.2
      omega
  · rw [pm.mem_iff, mem e, List.mem_map]
    constructor
    · rintro ⟨k, hk, e⟩
      obtain ⟨h1, h2⟩ := List.mem_filter.mp hk
      exact ⟨k, h1, h2, e⟩
    · rintro ⟨k, h1, h2, e⟩
      exact ⟨k, List.mem_filter.mpr ⟨h1, h2⟩, e⟩
theorem bothT_one {n1 : Nat} {ts us : List Tie} {e : Int} (h0 : 0 ≤ e) (h1 : e < (ts.length : Int)) : tieAt (bothT n1 ts us) e = tieAt ts e := tieAt_left ⟨h0, h1⟩
theorem bothT_two {n1 : Nat} {ts us : List Tie} {e : Int} (h0 : 0 ≤ e) (h1 : e < (us.length : Int)) : tieAt (bothT n1 ts us) ((ts.length : Int) + e) = mapT ((n1 : Int) + ·) (tieAt us e) := by
  have := tieAt_get (ts := us) h0 h1
  unfold tieAt bothT
  rw [List.getD_eq_getElem?_getD, List.getElem?_append_right (by omega), show ((ts.length : Int) + e).toNat - ts.length = e.toNat by omega, List.getElem?_map, this]
  rfl
theorem mend_true {H : Hp} {n : Nat} {ts : List Tie} {b : Addr} {c : Int → Bool} (hb : H b = some (.tup ((badF ts c (rng ts.length)).map V.int))) (l : ts.length ≤ 1000) : mendB H n ts (.ref b) = true ∧ RowK H (.ref b) := by
  have brg : ∀ x ∈ badF ts c (rng ts.length), 0 ≤ x ∧ x < (ts.length : Int) := fun x hx => mem_rng.mp (List.mem_filter.mp hx).1
  constructor
  · unfold mendB
    rw [parts_of' hb]
    show (riseB H ts.length (.ref b) && noOdd (keepTo ts (((badF ts c (rng ts.length)).map V.int).map toI) ts.length) n) = true
    rw [toI_map, noOdd_true (brk_no_odd (keep_brk (ts := ts) (c := c))), rise_of hb brg (badF_rising ts c _)]
    rfl
  · refine ⟨.inr (.inl ⟨_, hb⟩), fun xs e => ?_⟩
    rw [parts_of' hb] at e
    cases e
    refine ⟨fun x hx => ?_, ?_⟩
    · obtain ⟨i, _, rfl⟩ := List.mem_map.mp hx
      exact True.intro
    · have := List.length_filter_le (fun e => brkF c (tieAt ts e)) (rng ts.length)
      rw [rng_length] at this
      rw [List.length_map]
      unfold badF
      omega
/-! ### k88: both, looked at -/
/-- all but the deck and the tables is kept -/
def Kd (Ps : List Addr) (d c : Addr) (H H' : Hp) : Prop := ∀ b o, b ∉ Ps → b ≠ d → b ≠ c → H b = some o → H' b = some o
theorem Kd.refl {Ps : List Addr} {d c : Addr} {H : Hp} : Kd Ps d c H H := fun _ _ _ _ _ h => h
theorem Kd.trans {Ps : List Addr} {d c : Addr} {H H1 H2 : Hp} (a : Kd Ps d c H H1) (b : Kd Ps d c H1 H2) : Kd Ps d c H H2 := fun x o h0 h1 h2 h => b x o h0 h1 h2 (a x o h0 h1 h2 h)
theorem Kp.kd {Ps : List Addr} {d c : Addr} {H H' : Hp} (k : Kp d c H H') : Kd Ps d c H H' := fun b o _ h1 h2 h => k b o h1 h2 h
theorem Kt.kd {Ps : List Addr} {d c : Addr} {H H' : Hp} (k : Kt Ps H H') : Kd Ps d c H H' := fun b o h0 _ _ h => k.keep b o h0 h
theorem Same.kd {Ps : List Addr} {d c : Addr} {H H' : Hp} (s : Same H H') : Kd Ps d c H H' := fun b o _ _ _ h => s b o h
theorem Kd.mut {Ps : List Addr} {d c l : Addr} {H H' : Hp} {o : HO} (k : Kd Ps d c H H') (h : H l = none) : Kd Ps d c H (upd H' l o) := fun b u h0 h1 h2 e => by
  rw [upd_ne (fun z => by rw [z, h] at e; cases e)]
  exact k b u h0 h1 h2 e
theorem Kd.tk {Ps : List Addr} {d c : Addr} {H H' : Hp} (k : Kd Ps d c H H') (D : Deck H d c) (T : Tabs Ps H) : Tk H H' := by
  obtain ⟨cells, st, n, e1, e2, _⟩ := D
  exact ⟨fun b xs e => k b _ (T.out e fun _ z => by cases z) (fun z => by rw [z, e1] at e; cases e) (fun z => by rw [z, e2] at e; cases e) e, fun b o xs e => k b _ (T.out e fun _ z => by cases z) (fun z => by rw [z, e1] at e; cases e) (fun z => by rw [z, e2] at e; cases e) e⟩
theorem Kd.lst {Ps : List Addr} {d c a : Addr} {xs : List V} {H H' : Hp} (k : Kd Ps d c H H') (T : Tabs Ps H) (ne : a ≠ d ∧ a ≠ c) (e : H a = some (.lst xs)) : H' a = some (.lst xs) := k a _ (T.out e fun _ z => by cases z) ne.1 ne.2 e
def spBothR (Ps : List Addr) : Sp := fun vs H Q _ => ∃ (d c : Addr) (v1 v2 : V) (g1 g2 L : Addr) (n1 n2 : Nat) (ts us : List Tie) (ws xs : List Int) (v u : Int), vs = [.ref d, v1, v2, .ref g1, .ref g2, .ref L] ∧ Deck H d c ∧ WebAt H v1 n1 ts ∧ WebOk n1 ts ∧ WebAt H v2 n2 us ∧ WebOk n2 us ∧ n1 ≤ 4 ∧ n2 ≤ 4 ∧ ts.length ≤ 20 ∧ us.length ≤ 20 ∧ H g1 = some (.tup (ws.map V.int)) ∧ ws.length = ts.length ∧ H g2 = some (.tup (xs.map V.int)) ∧ xs.length = us.length ∧
  (∀ x ∈ ws, 1 ≤ x) ∧ (∀ x ∈ xs, 1 ≤ x) ∧ H L = some (.lst [.int v, .int u]) ∧ (L ≠ d ∧ L ≠ c) ∧ MinZ (ts.zip ws) v ∧ MinZ (us.zip xs) u ∧ Tabs Ps H ∧ ∀ H', Deck H' d c → Tabs Ps H' → Kd Ps d c H H' → Q (.bl true) H'
section
variable {P : Program} {w : World} {K : PySem.W.Frag} {mg : Str → Option Value} {base : Heap}
set_option maxHeartbeats 4000000 in
theorem ok_l_both_right {f : Addr} {fd : FuncData} {Ps : List Addr} (F : Fun K "_law_both_right" "_law_both_right" s_l_both_right f fd) (M : Free mg) (m_sorted : mg "sorted" = none) (D_l_both : Df P w K mg base 3 "_law_both" ["_law_deck_here", "_law_one", "_law_other", "_law_mine", "_law_theirs"] spBoth) (D_l_least : Df P w K mg base 56 "_law_least" ["_law_web", "_law_weights"] (spLst88 Ps)) (D_least_mend : Df P w K mg base 7 "least_mend" ["web", "weights"] (spLeastMend Ps)) (D_mend_holds : Df P w K mg base 5 "mend_holds" ["web", "thing"] (spMendHolds Ps)) (D_mend_weight : Df P w K mg base 3 "mend_weight" ["weights", "ties"] (spMend Ps)) : FnOk P w K mg base CX0 57 f fd ["_law_deck_here", "_law_one", "_law_other", "_law_mine", "_law_theirs", "_law_least_here"] (spBothR Ps) := by
  obtain ⟨f_l_both, fd_l_both, G_l_both, g_l_both, k_l_both, b_l_both⟩ := D_l_both
  obtain ⟨f_l_least, fd_l_least, G_l_least, g_l_least, k_l_least, b_l_least⟩ := D_l_least
  obtain ⟨f_least_mend, fd_least_mend, G_least_mend, g_least_mend, k_least_mend, b_least_mend⟩ := D_least_mend
  obtain ⟨f_mend_holds, fd_mend_holds, G_mend_holds, g_mend_holds, k_mend_holds, b_mend_holds⟩ := D_mend_holds
  obtain ⟨f_mend_weight, fd_mend_weight, G_mend_weight, g_mend_weight, k_mend_weight, b_mend_weight⟩ := D_mend_weight
  refine F.ok sc_l_both_right (fun vs H Q E h => ?_) (fun cdv A outer s H vs Q E hr h => ?_)
  · obtain ⟨d, c, v1, v2, g1, g2, L, n1, n2, ts, us, ws, xs, v, u, rfl, _⟩ := h
    rfl
  · obtain ⟨d, c, v1, v2, g1, g2, L, n1, n2, ts, us, ws, xs, v, u, rfl, hD, hW, ok, hU, ok2, n4, n4b, l20, l20b, hg, lw, hx, lx, w1, x1, hL, Ln, mv, mu, hT, q⟩ := h
    refine ⟨_, (pss_cons (ps_asg (pe_call G_l_both (hr.mono (by decide)) (by rfl) g_l_both k_l_both b_l_both .nil pass0 (pa_cons (pv 0) (pa_cons (pv 1) (pa_cons (pv 2) (pa_cons (pv 3) (pa_cons (pv 4) pa_nil)))))) (pg_tup rfl (pgs_cons (pg_name (i := 6) sc_l_both_right.nd rfl (.inl rfl)) (pgs_cons (pg_name (i := 7) sc_l_both_right.nd rfl (.inl rfl)) (pgs_cons (pg_name (i := 8) sc_l_both_right.nd rfl (.inr rfl)) pgs_nil)))))
      (pss_cons (ps_if (pt_cmpR op_ne (pe_call G_l_least (hr.mono (by decide)) (by rfl) g_l_least k_l_least b_l_least .nil pass0 (pa_cons (pv 6) (pa_cons (pv 7) pa_nil))) (pe_callB (cr_sum rfl) (by rfl) M.sum (by decide +kernel) (pa_cons (pv 5) pa_nil)) (nomark _))
        (pss_one (ps_ret pe_bl))
        pss_nil)
      (pss_cons (ps_setLc (i := 9) (own := [("_law_k", 10)]) (g := (gName 10)) (tt := tYes) rfl sc_l_both_right.nd rfl rfl (sw_true rfl rfl rfl (by decide +kernel)) (pi_tup (pe_ix ix_tup (pe_call G_least_mend (hr.mono (by decide)) (by rfl) g_least_mend k_least_mend b_least_mend .nil pass0 (pa_cons (pv 6) (pa_cons (pv 7) pa_nil))) pe_int (fun _ _ => rfl))) (blkOk_by (N := N_l_both_right) (sc := defScope s_l_both_right) (own := [("_law_k", 10)]) (by decide +kernel)) (fun _ _ _ _ _ => (pg_name (i := 10) sc_l_both_right.nd rfl (.inl rfl))) (fun _ _ _ _ _ => pts_nil) (fun _ _ _ _ _ => (pe_ix (r := rIxL K) ix_list (pv 8) (pv 10) (fun _ _ => rfl))))
      (pss_cons (ps_set (i := 11) sc_l_both_right.nd rfl (.inl rfl) (pe_callTy call_tuple_of (by rfl) M.tuple (by decide +kernel) (pa_cons (pe_callB cr_sortedI (by rfl) m_sorted (by decide +kernel) (pa_cons (pe_lc (own := [("_law_k", 10)]) (g := (gName 10)) (te := tVar 10) rfl sc_l_both_right.nd (pi_list (pv 9)) (blkOk_by (N := N_l_both_right) (sc := defScope s_l_both_right) (own := [("_law_k", 10)]) (by decide +kernel)) (fun _ _ _ _ _ => (pg_name (i := 10) sc_l_both_right.nd rfl (.inl rfl))) (fun _ _ _ _ _ => (pts_one (pt_cmpR op_lt (pv 10) (pe_callB (r := rLen49 K) call_len_seq (by rfl) M.len PySem.boot_len (pa_cons (pv 3) pa_nil)) (nomark _)))) (fun _ _ _ _ _ => (pv 10))) pa_nil)) pa_nil)))
      (pss_cons (ps_set (i := 12) sc_l_both_right.nd rfl (.inl rfl) (pe_callTy call_tuple_of (by rfl) M.tuple (by decide +kernel) (pa_cons (pe_callB cr_sortedI (by rfl) m_sorted (by decide +kernel) (pa_cons (pe_lc (own := [("_law_k", 10)]) (g := (gName 10)) rfl sc_l_both_right.nd (pi_list (pv 9)) (blkOk_by (N := N_l_both_right) (sc := defScope s_l_both_right) (own := [("_law_k", 10)]) (by decide +kernel)) (fun _ _ _ _ _ => (pg_name (i := 10) sc_l_both_right.nd rfl (.inl rfl))) (fun _ _ _ _ _ => (pts_one (pt_cmpR op_ge (pv 10) (pe_callB (r := rLen49 K) call_len_seq (by rfl) M.len PySem.boot_len (pa_cons (pv 3) pa_nil)) (nomark _)))) (fun _ _ _ _ _ => (pe_op op_sub (pv 10) (pe_callB (r := rLen49 K) call_len_seq (by rfl) M.len PySem.boot_len (pa_cons (pv 3) pa_nil))))) pa_nil)) pa_nil)))
      (pss_cons (ps_if (PW.pt (pw_or (pt_cmpR op_isnot_bl (pe_call G_mend_holds (hr.mono (by decide)) (by rfl) g_mend_holds k_mend_holds b_mend_holds .nil pass0 (pa_cons (pv 1) (pa_cons (pv 11) pa_nil))) pe_bl (nomark _)) (pw_or1 (pt_cmpR op_isnot_bl (pe_call G_mend_holds (hr.mono (by decide)) (by rfl) g_mend_holds k_mend_holds b_mend_holds .nil pass0 (pa_cons (pv 2) (pa_cons (pv 12) pa_nil))) pe_bl (nomark _)))))
        (pss_one (ps_ret pe_bl))
        pss_nil)
      (pss_one (ps_ret (pe_cmpR (op_eqD hr.units) (pe_lst (pa_cons (pe_call G_mend_weight (hr.mono (by decide)) (by rfl) g_mend_weight k_mend_weight b_mend_weight .nil pass0 (pa_cons (pv 3) (pa_cons (pv 11) pa_nil))) (pa_cons (pe_call G_mend_weight (hr.mono (by decide)) (by rfl) g_mend_weight k_mend_weight b_mend_weight .nil pass0 (pa_cons (pv 4) (pa_cons (pv 12) pa_nil))) pa_nil))) (pv 5) (nomark _)))))))))), ?_⟩
    have n1' := ok.lo
    have n2' := ok2.lo
    refine ⟨.ref d, rfl, v1, rfl, v2, rfl, .ref g1, rfl, .ref g2, rfl, d, c, v1, v2, g1, g2, n1, n2, ts, us, ws, xs, rfl, hD, hW, ok, hU, ok2, n4, n4b, l20, l20b, hg, lw, hx, lx, fun o wv gw rw' called rows H1 ho hwv hgw hrw pc pr nR D1 K1 => ?_⟩
    have bw : BothW n1 n2 ts us ws xs called rows := ⟨ok.ok, ok2.ok, lw, lx, pc, pr⟩
    have lT : (bothT n1 ts us).length = ts.length + us.length := by
      unfold bothT
      rw [List.length_append, List.length_map]
    have lrow : rows.length = ts.length + us.length := by rw [pr.length_eq, rng_length, lT]
    have okc : WebOk ((n1 + n2 : Nat) : Int) (rows.map fun k => mapT (clF called) (tieAt (bothT n1 ts us) k)) := ⟨by omega, by omega, by rw [List.length_map]; omega, bw.tie⟩
    have mm := bw.min mv mu
    have ww1 : ∀ x ∈ rows.map (fun k => gW (ws ++ xs) k), 1 ≤ x := fun x hx' => by
      obtain ⟨k, hk, rfl⟩ := List.mem_map.mp hx'
      have lwx : (ws ++ xs).length = (bothT n1 ts us).length := by rw [List.length_append, lT, lw, lx]
      refine gW_ge (b := 1) (fun y hy => ?_) lwx k (pr.mem_iff.mp hk)
      rcases List.mem_append.mp hy with h | h
      · exact w1 y h
      · exact x1 y h
    have lmw : (rows.map fun k => gW (ws ++ xs) k).length = (rows.map fun k => mapT (clF called) (tieAt (bothT n1 ts us) k)).length := by rw [List.length_map, List.length_map]
    have rd := hD.ne
    have T1 : Tabs Ps H1 := hT.kp K1 hD
    have kd1 : Kd Ps d c H H1 := K1.kd
    have rn : rw' ≠ d ∧ rw' ≠ c := by
      obtain ⟨cells, st, n, e1, e2, _⟩ := D1
      exact ⟨(fun z => by rw [z, e1] at hrw; cases hrw), (fun z => by
        obtain ⟨_, _, _, _, e2', _⟩ := hD
        rw [z] at nR
        rw [nR] at e2'
        cases e2')⟩
    refine ⟨o, _, rfl, SqT.of ho, rfl, _, _, rfl, _, _, rfl, _, _, rfl, rfl, ?_⟩
    -- the least
    refine ⟨wv, rfl, .ref gw, rfl, wv, gw, n1 + n2, _, _, rfl, hwv, okc, by omega, by rw [List.length_map]; omega, hgw, lmw, ww1, T1, fun s H2 k2 ms _ => ?_⟩
    have es : s = v + u := ms.one mm
    have T2 : Tabs Ps H2 := k2.tab
    have D2 := k2.deck T1 D1
    have kd2 : Kd Ps d c H H2 := kd1.trans k2.kd
    have hL2 := kd2.lst hT Ln hL
    refine ⟨.ref L, rfl, L, [v, u], rfl, SqL.of hL2, rfl, _, rfl, ?_⟩
    have e2 : decide (V.int s = V.int ([v, u] : List Int).sum) = true := decide_eq_true (by rw [es]; congr 1; simp)
    rw [e2]
    -- what is told
    have wv2 := hwv.tk (k2.tk T1)
    have gw2 := k2.tup T1 hgw
    have h8 : ∀ P ∈ partsTo (rows.map fun k => mapT (clF called) (tieAt (bothT n1 ts us) k)) (n1 + n2) (n1 + n2), oddF (rows.map fun k => mapT (clF called) (tieAt (bothT n1 ts us) k)) P = true → P.length ≤ 8 := fun P hP _ => by have := part_few hP; omega
    refine ⟨wv, rfl, .ref gw, rfl, wv, .ref gw, n1 + n2, _, _, rfl, wv2, okc, h8, wts_of gw2 lmw, gW_ge ww1 lmw, T2, fun tv cc _ H3 k3 told hv => ?_⟩
    have T3 : Tabs Ps H3 := k3.tab
    have D3 := k3.deck T2 D2
    have kd3 : Kd Ps d c H H3 := kd2.trans k3.kd
    obtain ⟨ta, tb, rfl, hta, htb⟩ := hv
    have hrw3 := k3.lst T2 (k2.lst T1 hrw)
    have lv : MinZ _ _ := (minz_of lmw).mp ⟨⟨cc, rfl⟩, told.le⟩
    have eS := (lv.one mm)
    rw [cost_eq lmw, zip_rows, cost_map] at eS
    rw [List.length_map] at htb
    have htb : H3 tb = some (.tup ((badF (rows.map fun k => mapT (clF called) (tieAt (bothT n1 ts us) k)) cc (rng rows.length)).map V.int)) := htb
    have eS2 : costZ ((bothT n1 ts us).zip (ws ++ xs)) (fun x => cc (clF called x)) = v + u := by
      rw [← eS, ← zip_rng (by rw [List.length_append, lT, lw, lx])]
      exact costZ_perm (pr.symm.map fun k => (tieAt (bothT n1 ts us) k, gW (ws ++ xs) k)) _
    rw [zip_both lw] at eS2
    obtain ⟨cv, cu⟩ := both_least mv mu eS2
    generalize hbb : badF (rows.map fun k => mapT (clF called) (tieAt (bothT n1 ts us) k)) cc (rng rows.length) = B at htb
    obtain ⟨ndt, memt⟩ := bw.parted cc (tl := B.map fun k => rows.getD k.toNat 0) (by rw [← hbb])
    have brg : ∀ x ∈ B, 0 ≤ x ∧ x < (rows.length : Int) := fun x hx => by
      rw [← hbb] at hx
      exact mem_rng.mp (List.mem_filter.mp hx).1
    have bl : B.length ≤ 40 := by
      rw [← hbb]
      have := List.length_filter_le (fun e => brkF cc (tieAt (rows.map fun k => mapT (clF called) (tieAt (bothT n1 ts us) k)) e)) (rng rows.length)
      rw [rng_length] at this
      unfold badF
      omega
    refine ⟨ta, _, 1, .ref tb, rfl, rfl, SqT.of hta, rfl, tb, rfl, ⟨_, SqT.of htb⟩, fun Z nZ => ?_⟩
    refine lc_tup (xs := B.map V.int) (fun j H' => H' Z = some (.lst (((B.take j).map fun k => rows.getD k.toNat 0).map V.int)) ∧ Same H3 H') ⟨upd_same, same_new nZ⟩ (fun j H' _ h => SqT.of (h.2 _ _ htb)) ?_ ?_
    · rintro j x H4 ex ⟨hZ, s4⟩
      rw [List.getElem?_map] at ex
      obtain ⟨k, hk, rfl⟩ := Option.map_eq_some_iff.mp ex
      have jl := (List.getElem?_eq_some_iff.mp hk).1
      obtain ⟨k0, k1⟩ := brg k (List.mem_of_getElem? hk)
      have ek : atI (rows.map V.int) k = some (.int (rows.getD k.toNat 0)) := atI_of k0 (by rw [List.getElem?_map, List.getD_eq_getElem?_getD, List.getElem?_eq_getElem (by omega)]; rfl)
      refine ⟨rfl, .ref rw', rfl, .int k, rfl, rw', _, k, _, rfl, rfl, SqL.of (s4 _ _ hrw3), ek, _, hZ, ?_, ?_, Same.mut s4 nZ⟩
      · rw [List.length_map, List.length_map, List.length_take]
        exact small1000 (by omega)
      · rw [upd_same, List.take_add_one, hk, List.map_append, List.map_append]
        rfl
    rintro H4 ⟨hZ, s4⟩
    rw [List.length_map, List.take_length] at hZ
    generalize htl : (B.map fun k => rows.getD k.toNat 0) = tl at hZ ndt memt
    have ltl : tl.length ≤ 40 := by rw [← htl, List.length_map]; exact bl
    have kd4 : Kd Ps d c H H4 := kd3.trans (Same.kd s4)
    have T4 := T3.same s4
    have D4 := D3.same s4
    -- the first
    refine ⟨.ref Z, rfl, Z, rfl, ⟨_, SqL.of hZ⟩, fun Y nY => ?_⟩
    have hg4 := kd4.tk hD hT _ _ hg
    refine lc_list (xs := tl.map V.int) (fun j H' => H' Y = some (.lst (((tl.take j).filter fun k => decide (k < (ts.length : Int))).map V.int)) ∧ Same H4 H') ⟨upd_same, same_new nY⟩ (fun j H' _ h => SqL.of (h.2 _ _ hZ)) ?_ ?_
    · rintro j x H5 ex ⟨hY, s5⟩
      rw [List.getElem?_map] at ex
      obtain ⟨k, hk, rfl⟩ := Option.map_eq_some_iff.mp ex
      have jl := (List.getElem?_eq_some_iff.mp hk).1
      refine ⟨rfl, .int k, rfl, .ref g1, rfl, g1, _, rfl, .inr (SqT.of (s5 _ _ hg4)), k, _, rfl, rfl, _, rfl, ?_⟩
      rw [List.length_map, lw]
      have st : (tl.take (j + 1)).filter (fun k => decide (k < (ts.length : Int))) = (tl.take j).filter (fun k => decide (k < (ts.length : Int))) ++ (if decide (k < (ts.length : Int)) = true then [k] else []) := filter_snoc _ hk
      rw [st]
      cases hb : decide (k < (ts.length : Int)) with
      | true =>
        refine ⟨.int k, rfl, _, hY, ?_, by rw [upd_same, List.map_append]; rfl, Same.mut s5 nY⟩
        have := filter_take_len (fun k => decide (k < (ts.length : Int))) tl j
        rw [List.length_map]
        exact small1000 (by omega)
      | false =>
        refine ⟨?_, s5⟩
        rw [if_neg (by decide), List.append_nil]
        exact hY
    rintro H5 ⟨hY, s5⟩
    rw [List.length_map, List.take_length] at hY
    refine ⟨Y, _, rfl, SqL.of hY, fun ys p pn sn np => ?_⟩
    have ey : ys = badF ts (fun x => cc (clF called x)) (rng ts.length) := by
      refine sorted_is (g := fun k => k) (by rw [List.map_id']; exact pn) sn ndt (fun a b h => h) (badF_rising ts _ _) fun e => ?_
      constructor
      · intro he
        obtain ⟨h1, h2⟩ := List.mem_filter.mp he
        obtain ⟨e0, e1⟩ := mem_rng.mp h1
        refine ⟨e, (memt e).mpr ⟨⟨e0, by rw [lT]; omega⟩, ?_⟩, decide_eq_true e1, rfl⟩
        rw [bothT_one e0 e1]
        exact h2
      · rintro ⟨k, hk, hlt, rfl⟩
        obtain ⟨⟨k0, k1⟩, hb⟩ := (memt k).mp hk
        have hlt := of_decide_eq_true hlt
        refine List.mem_filter.mpr ⟨mem_rng.mpr ⟨k0, hlt⟩, ?_⟩
        rw [bothT_one k0 hlt] at hb
        exact hb
    rw [ey]
    have s6 := same_new (o := .lst ((badF ts (fun x => cc (clF called x)) (rng ts.length)).map V.int)) np
    have h6 : (upd H5 p (.lst ((badF ts (fun x => cc (clF called x)) (rng ts.length)).map V.int))) p = some (.lst ((badF ts (fun x => cc (clF called x)) (rng ts.length)).map V.int)) := upd_same
    refine ⟨p, _, rfl, .inl ⟨SqL.of h6, fun f1 nf1 => ?_⟩⟩
    have s7 := same_new (o := .tup ((badF ts (fun x => cc (clF called x)) (rng ts.length)).map V.int)) nf1
    have hf1 : (upd (upd H5 p (.lst ((badF ts (fun x => cc (clF called x)) (rng ts.length)).map V.int))) f1 (.tup ((badF ts (fun x => cc (clF called x)) (rng ts.length)).map V.int))) f1 = some (.tup ((badF ts (fun x => cc (clF called x)) (rng ts.length)).map V.int)) := upd_same
    have s47 := (s5.trans s6).trans s7
    generalize upd (upd H5 p (.lst ((badF ts (fun x => cc (clF called x)) (rng ts.length)).map V.int))) f1 (.tup ((badF ts (fun x => cc (clF called x)) (rng ts.length)).map V.int)) = H7 at hf1 s47
    clear h6 s6 s7 hY s5 nY np nf1 pn sn ey
    have hZ7 := s47 _ _ hZ
    have hg7 := s47 _ _ hg4
    -- the second
    refine ⟨.ref Z, rfl, Z, rfl, ⟨_, SqL.of hZ7⟩, fun Y nY => ?_⟩
    refine lc_list (xs := tl.map V.int) (fun j H' => H' Y = some (.lst ((((tl.take j).filter fun k => decide ((ts.length : Int) ≤ k)).map fun k => k - (ts.length : Int)).map V.int)) ∧ Same H7 H') ⟨upd_same, same_new nY⟩ (fun j H' _ h => SqL.of (h.2 _ _ hZ7)) ?_ ?_
    · rintro j x H8 ex ⟨hY, s8⟩
      rw [List.getElem?_map] at ex
      obtain ⟨k, hk, rfl⟩ := Option.map_eq_some_iff.mp ex
      have jl := (List.getElem?_eq_some_iff.mp hk).1
      refine ⟨rfl, .int k, rfl, .ref g1, rfl, g1, _, rfl, .inr (SqT.of (s8 _ _ hg7)), k, _, rfl, rfl, _, rfl, ?_⟩
      rw [List.length_map, lw]
      have st : (tl.take (j + 1)).filter (fun k => decide ((ts.length : Int) ≤ k)) = (tl.take j).filter (fun k => decide ((ts.length : Int) ≤ k)) ++ (if decide ((ts.length : Int) ≤ k) = true then [k] else []) := filter_snoc _ hk
      rw [st]
      cases hb : decide ((ts.length : Int) ≤ k) with
      | true =>
        refine ⟨.int k, rfl, .ref g1, rfl, g1, _, rfl, .inr (SqT.of (s8 _ _ hg7)), k, _, rfl, rfl, _, hY, ?_, ?_, Same.mut s8 nY⟩
        · have := filter_take_len (fun k => decide ((ts.length : Int) ≤ k)) tl j
          rw [List.length_map, List.length_map]
          exact small1000 (by omega)
        · rw [upd_same, List.map_append, List.map_append, List.length_map, lw]
          rfl
      | false =>
        refine ⟨?_, s8⟩
        rw [if_neg (by decide), List.append_nil]
        exact hY
    rintro H8 ⟨hY, s8⟩
    rw [List.length_map, List.take_length] at hY
    refine ⟨Y, _, rfl, SqL.of hY, fun ys p pn sn np => ?_⟩
    have ey : ys = badF us (fun x => cc (clF called ((n1 : Int) + x))) (rng us.length) := by
      refine sorted_is (g := fun k => k - (ts.length : Int)) pn sn ndt (fun a b h => by have h : a - (ts.length : Int) = b - (ts.length : Int) := h; omega) (badF_rising us _ _) fun e => ?_
      constructor
      · intro he
        obtain ⟨h1, h2⟩ := List.mem_filter.mp he
        obtain ⟨e0, e1⟩ := mem_rng.mp h1
        refine ⟨(ts.length : Int) + e, (memt _).mpr ⟨⟨by omega, by rw [lT]; omega⟩, ?_⟩, decide_eq_true (by omega), by omega⟩
        rw [bothT_two e0 e1, brk_map]
        exact h2
      · rintro ⟨k, hk, hlt, rfl⟩
        obtain ⟨⟨k0, k1⟩, hb⟩ := (memt k).mp hk
        have hlt := of_decide_eq_true hlt
        rw [lT] at k1
        refine List.mem_filter.mpr ⟨mem_rng.mpr ⟨by omega, by omega⟩, ?_⟩
        have e := bothT_two (n1 := n1) (ts := ts) (us := us) (e := k - (ts.length : Int)) (by omega) (by omega)
        rw [show (ts.length : Int) + (k - (ts.length : Int)) = k by omega] at e
        rw [e, brk_map] at hb
        exact hb
    rw [ey]
    have s9 := same_new (o := .lst ((badF us (fun x => cc (clF called ((n1 : Int) + x))) (rng us.length)).map V.int)) np
    have h9 : (upd H8 p (.lst ((badF us (fun x => cc (clF called ((n1 : Int) + x))) (rng us.length)).map V.int))) p = some (.lst ((badF us (fun x => cc (clF called ((n1 : Int) + x))) (rng us.length)).map V.int)) := upd_same
    refine ⟨p, _, rfl, .inl ⟨SqL.of h9, fun f2 nf2 => ?_⟩⟩
    have s10 := same_new (o := .tup ((badF us (fun x => cc (clF called ((n1 : Int) + x))) (rng us.length)).map V.int)) nf2
    have hf2 : (upd (upd H8 p (.lst ((badF us (fun x => cc (clF called ((n1 : Int) + x))) (rng us.length)).map V.int))) f2 (.tup ((badF us (fun x => cc (clF called ((n1 : Int) + x))) (rng us.length)).map V.int))) f2 = some (.tup ((badF us (fun x => cc (clF called ((n1 : Int) + x))) (rng us.length)).map V.int)) := upd_same
    have s710 := (s8.trans s9).trans s10
    generalize upd (upd H8 p (.lst ((badF us (fun x => cc (clF called ((n1 : Int) + x))) (rng us.length)).map V.int))) f2 (.tup ((badF us (fun x => cc (clF called ((n1 : Int) + x))) (rng us.length)).map V.int)) = H10 at hf2 s710
    clear h9 s9 s10 hY s8 nY np nf2 pn sn ey
    have hf1 := s710 _ _ hf1
    have kd10 : Kd Ps d c H H10 := kd4.trans (Same.kd (s47.trans s710))
    have T10 := T4.same (s47.trans s710)
    have D10 := D4.same (s47.trans s710)
    have tk10 := kd10.tk hD hT
    -- mends hold
    obtain ⟨m1, r1⟩ := mend_true (n := n1) hf1 (by omega)
    obtain ⟨m2, r2⟩ := mend_true (n := n2) hf2 (by omega)
    refine ⟨v1, rfl, .ref f1, rfl, v1, .ref f1, n1, ts, rfl, hW.tk tk10, ok, r1, T10, fun H11 k11 => ?_⟩
    rw [m1]
    refine ⟨_, _, rfl, rfl, _, rfl, ?_⟩
    have T11 : Tabs Ps H11 := k11.tab
    have kd11 : Kd Ps d c H H11 := kd10.trans k11.kd
    have D11 := k11.deck T10 D10
    have tk11 := kd11.tk hD hT
    have em2 : mendB H11 n2 us (.ref f2) = true := (mend_true (n := n2) (k11.tup T10 hf2) (by omega)).1
    refine ⟨v2, rfl, .ref f2, rfl, v2, .ref f2, n2, us, rfl, hU.tk tk11, ok2, (mend_true (n := n2) (k11.tup T10 hf2) (by omega)).2, T11, fun H12 k12 => ?_⟩
    rw [em2]
    refine ⟨_, _, rfl, rfl, _, rfl, ?_⟩
    have T12 : Tabs Ps H12 := k12.tab
    have kd12 : Kd Ps d c H H12 := kd11.trans k12.kd
    have D12 := k12.deck T11 D11
    have tk12 := kd12.tk hD hT
    have hf1 := k12.tup T11 (k11.tup T10 hf1)
    have hf2 := k12.tup T11 (k11.tup T10 hf2)
    -- weights
    refine ⟨.ref g1, rfl, .ref f1, rfl, .ref g1, f1, badF ts (fun x => cc (clF called x)) (rng ts.length), gW ws, rfl, .inl hf1, (wts_of (tk12 _ _ hg) lw).sub (fun x hx => (List.mem_filter.mp hx).1), T12, fun H13 k13 => ?_⟩
    have T13 : Tabs Ps H13 := k13.tab
    have kd13 : Kd Ps d c H H13 := kd12.trans k13.kd
    have D13 := k13.deck T12 D12
    have tk13 := kd13.tk hD hT
    refine ⟨.ref g2, rfl, .ref f2, rfl, .ref g2, f2, badF us (fun x => cc (clF called ((n1 : Int) + x))) (rng us.length), gW xs, rfl, .inl (k13.tup T12 hf2), (wts_of (tk13 _ _ hx) lx).sub (fun x hx => (List.mem_filter.mp hx).1), T13, fun H14 k14 => ?_⟩
    have T14 : Tabs Ps H14 := k14.tab
    have kd14 : Kd Ps d c H H14 := kd13.trans k14.kd
    have D14 := k14.deck T13 D13
    rw [cost_eq lw, cost_eq lx, cv, cu]
    refine ⟨by show 2 ≤ sizeLine; decide, fun l nl => ?_⟩
    have s15 := same_new (o := .lst [.int v, .int u]) nl
    have hl15 : (upd H14 l (.lst [.int v, .int u])) l = some (.lst [.int v, .int u]) := upd_same
    generalize upd H14 l (.lst [.int v, .int u]) = H15 at s15 hl15
    have kd15 : Kd Ps d c H H15 := kd14.trans (Same.kd s15)
    have dl : ∀ {a : Addr}, H15 a = some (.lst [.int v, .int u]) → Dp K H15 (.ref a) (listD [v, u]) := fun h => .lst (SqL.of h) (dp_ints [v, u])
    refine ⟨.ref L, rfl, listD [v, u], listD [v, u], dl hl15, dl (kd15.lst hT Ln hL), shaped_listD _, shaped_listD _, ?_⟩
    rw [eqv_listD, decide_eq_true rfl]
    exact q H15 (D14.same s15) (T14.same s15) kd15
end
/-! ### t != () -/
def rNeTE (K : PySem.W.Frag) : R2 := fun x y H Q => ∃ (a b : Addr) (xs : List V), x = .ref a ∧ y = .ref b ∧ SqT K H a xs ∧ SqT K H b [] ∧ Q (.bl (!xs.isEmpty)) H
theorem op_neTE {X : Cx} (hu : X.A.units < cLine) : OpR X (compareOp .NotEq) (rNeTE X.K) := by
  intro pins s σ H x y v u Q I rx ry h
  obtain ⟨a, b, xs, rfl, rfl, ha, hb, q⟩ := h
  obtain rfl : v = Value.ref a := rx
  obtain rfl : u = Value.ref b := ry
  obtain ⟨its, r1, p1, _⟩ := I.tuple ha
  obtain ⟨its2, r2, p2, _⟩ := I.tuple hb
  cases r2
  have e : ((List.range (min its.toArray.size ([] : List Value).toArray.size)).all (fun _ => true) && its.toArray.size == ([] : List Value).toArray.size) = xs.isEmpty := by
    have hl := r1.length
    cases xs with
    | nil =>
      have : its = [] := List.length_eq_zero_iff.mp (by rw [← hl]; rfl)
      rw [this]
      rfl
    | cons z zs =>
      cases its with
      | nil => simp at hl
      | cons w ws => simp
  exact SeqAt.RcNeAt.tuples (e := fun _ => true) p1 p2 hu (fun j _ h2 => absurd h2 (by simp)) _ _ _ _ ⟨.bl (!xs.isEmpty), H, I, by rw [e]; rfl, q⟩
/-! ### k88: webs made of one -/
def MoreR (H : Hp) (ts : List Tie) (ws : List Int) (r : V) : Prop := ∃ (a : Addr) (wv : V) (gw : Addr) (n' : Nat) (ts' : List Tie) (ws' : List Int) (t m : Int), r = .ref a ∧ H a = some (.tup [wv, .ref gw, .int t, .int m]) ∧ WebAt H wv n' ts' ∧ WebOk n' ts' ∧ n' ≤ 8 ∧ ts'.length ≤ 60 ∧ H gw = some (.tup (ws'.map V.int)) ∧ ws'.length = ts'.length ∧ (∀ x ∈ ws', 1 ≤ x) ∧ (∀ v, MinZ (ts.zip ws) v → MinZ (ts'.zip ws') (t * v + m))
theorem MoreR.tk {H H' : Hp} (k : Tk H H') {ts : List Tie} {ws : List Int} {r : V} (h : MoreR H ts ws r) : MoreR H' ts ws r := by
  obtain ⟨a, wv, gw, n', ts', ws', t, m, e, h1, h2, h3, h4, h5, h6, h7, h8, h9⟩ := h
  exact ⟨a, wv, gw, n', ts', ws', t, m, e, k _ _ h1, h2.tk k, h3, h4, h5, k _ _ h6, h7, h8, h9⟩
def spMore : Sp := fun vs H Q _ => ∃ (d c : Addr) (v : V) (g : Addr) (n : Nat) (ts : List Tie) (ws : List Int), vs = [.ref d, v, .ref g] ∧ Deck H d c ∧ WebAt H v n ts ∧ WebOk n ts ∧ n ≤ 4 ∧ ts.length ≤ 20 ∧ H g = some (.tup (ws.map V.int)) ∧ ws.length = ts.length ∧ (∀ x ∈ ws, 1 ≤ x ∧ x ≤ 10 ^ 9) ∧
  ∀ L rows H', H' L = some (.lst rows) → H L = none → (L ≠ d ∧ L ≠ c) → rows.length ≤ 10 → (∀ r ∈ rows, MoreR H' ts ws r) → Deck H' d c → Kp d c H H' → Q (.ref L) H'
structure MI (H0 : Hp) (d c G : Addr) (ts : List Tie) (ws : List Int) (rows : List V) (H : Hp) : Prop where
  g : H G = some (.lst rows)
  mr : ∀ r ∈ rows, MoreR H ts ws r
  w : Deck H d c
  k : Kp d c H0 H
theorem MI.same {H0 : Hp} {d c G : Addr} {ts : List Tie} {ws : List Int} {rows : List V} {H H' : Hp} (h : MI H0 d c G ts ws rows H) (s : Same H H') : MI H0 d c G ts ws rows H' := ⟨s _ _ h.g, fun r hr => (h.mr r hr).tk (Same.tk s), h.w.same s, h.k.trans (Kp.same8 s)⟩
theorem MI.draw {H0 : Hp} {d c G : Addr} {ts : List Tie} {ws : List Int} {rows : List V} {H H' : Hp} (h : MI H0 d c G ts ws rows H) (ne : G ≠ d ∧ G ≠ c) (D : Deck H' d c) (K : Kp d c H H') : MI H0 d c G ts ws rows H' := ⟨K _ _ ne.1 ne.2 h.g, fun r hr => (h.mr r hr).tk (K.tk h.w), D, h.k.trans K⟩
theorem MI.push {H0 : Hp} {d c G : Addr} {ts : List Tie} {ws : List Int} {rows : List V} {H : Hp} (h : MI H0 d c G ts ws rows H) (ne : G ≠ d ∧ G ≠ c) (no : H0 G = none) {x : V} (hx : MoreR H ts ws x) : MI H0 d c G ts ws (rows ++ [x]) (upd H G (.lst (rows ++ [x]))) := ⟨upd_same, fun y hy => by
  rcases List.mem_append.mp hy with hy | hy
  · exact (h.mr y hy).tk (tk_lst h.g)
  · rw [List.mem_singleton.mp hy]
    exact hx.tk (tk_lst h.g), h.w.mut ne.1 ne.2, h.k.mut no⟩
theorem zip_set : ∀ {ts : List Tie} {ws : List Int} {k : Nat} {t : Tie} {x : Int}, ts[k]? = some t → ts.length = ws.length → ts.zip (ws.take k ++ x :: ws.drop (k + 1)) = (ts.take k).zip (ws.take k) ++ (t, x) :: (ts.drop (k + 1)).zip (ws.drop (k + 1))
  | [], _, _, _, _, h, _ => by simp at h
  | a :: ts, [], _, _, _, _, l => by simp at l
  | a :: ts, b :: ws, 0, t, x, h, _ => by
    have : a = t := Option.some.inj h
    subst this
    simp
  | a :: ts, b :: ws, k + 1, t, x, h, l => by
    have ih := zip_set (ts := ts) (ws := ws) (k := k) (t := t) (x := x) h (by simpa using l)
    simp only [List.take_succ_cons, List.drop_succ_cons, List.cons_append, List.zip_cons_cons, ih]
theorem swap_ok {n : Int} {t : Tie} (h : TieOk n t) : TieOk n (swapT t) := ⟨h.2.2.1, h.2.2.2.1, h.1, h.2.1, fun z => h.2.2.2.2 z.symm⟩
theorem ok_app {n : Nat} {ts us : List Tie} (ok : WebOk n ts) (l : ts.length + us.length ≤ 60) (h : ∀ t ∈ us, TieOk n t) : WebOk n (ts ++ us) := ⟨ok.lo, ok.hi, by rw [List.length_append]; omega, fun t ht => (List.mem_append.mp ht).elim (ok.ok t) (h t)⟩
theorem kinds_pick {v : Int} (h0 : 0 ≤ v) (h1 : v < 2) : ∃ fo : Bool, atI [V.str "friend", V.str "foe"] v = some (.str (kindS fo)) := by
  have : v = 0 ∨ v = 1 := by omega
  rcases this with rfl | rfl
  · exact ⟨false, rfl⟩
  · exact ⟨true, rfl⟩
section
variable {P : Program} {w : World} {K : PySem.W.Frag} {mg : Str → Option Value} {base : Heap}
set_option maxHeartbeats 4000000 in
theorem ok_l_more {f : Addr} {fd : FuncData} (F : Fun K "_law_more" "_law_more" s_l_more f fd) (M : Free mg) (D_l_long : Df P w K mg base 2 "_law_long" ["_law_deck_here"] spLong) (D_l_take : Df P w K mg base 1 "_law_take" ["_law_deck_here", "_law_many"] spDraw) : FnOk P w K mg base CX0 3 f fd ["_law_deck_here", "_law_web", "_law_weights"] spMore := by
  obtain ⟨f_l_long, fd_l_long, G_l_long, g_l_long, k_l_long, b_l_long⟩ := D_l_long
  obtain ⟨f_l_take, fd_l_take, G_l_take, g_l_take, k_l_take, b_l_take⟩ := D_l_take
  refine F.ok sc_l_more (fun vs H Q E h => ?_) (fun cdv A outer s H vs Q E hr h => ?_)
  · obtain ⟨d, c, v, g, n, ts, ws, rfl, _⟩ := h
    rfl
  · obtain ⟨d, c, v, g, n, ts, ws, rfl, hD, hW, ok, n4, l20, hg, lw, w1, q⟩ := h
    refine ⟨_, (pss_cons (ps_asg (pv 1) (pg_tup rfl (pgs_cons (pg_name (i := 3) sc_l_more.nd rfl (.inl rfl)) (pgs_cons (pg_name (i := 4) sc_l_more.nd rfl (.inl rfl)) pgs_nil))))
      (pss_cons (ps_set (i := 5) sc_l_more.nd rfl (.inr rfl) (pe_op op_add pe_int (pe_op op_mod (pe_call G_l_long (hr.mono (by decide)) (by rfl) g_l_long k_l_long b_l_long .nil pass0 (pa_cons (pv 0) pa_nil)) (pe_op op_pow pe_int pe_int))))
      (pss_cons (ps_set (i := 6) sc_l_more.nd rfl (.inl rfl) (pe_callTy call_tuple_of (by rfl) M.tuple (by decide +kernel) (pa_cons (pe_lc (own := [("_law_one", 7), ("_law_other", 8), ("_law_kind", 9)]) (g := (gTup K 3 (gCons (gName 7) (gCons (gName 8) (gCons (gName 9) gNil))))) (tt := tYes) rfl sc_l_more.nd (pi_tup (pv 4)) (blkOk_by (N := N_l_more) (sc := defScope s_l_more) (own := [("_law_one", 7), ("_law_other", 8), ("_law_kind", 9)]) (by decide +kernel)) (fun _ _ _ _ _ => (pg_tup rfl (pgs_cons (pg_name (i := 7) sc_l_more.nd rfl (.inl rfl)) (pgs_cons (pg_name (i := 8) sc_l_more.nd rfl (.inl rfl)) (pgs_cons (pg_name (i := 9) sc_l_more.nd rfl (.inl rfl)) pgs_nil))))) (fun _ _ _ _ _ => pts_nil) (fun _ _ _ _ _ => (pe_tup (pa_cons (pv 8) (pa_cons (pv 7) (pa_cons (pv 9) pa_nil)))))) pa_nil)))
      (pss_cons (ps_set (i := 10) sc_l_more.nd rfl (.inl rfl) (pe_lst (pa_cons (pe_tup (pa_cons (pe_tup (pa_cons (pv 3) (pa_cons (pe_op op_catU (pv 4) (pv 6)) pa_nil))) (pa_cons (pe_op op_catU (pv 2) (pv 2)) (pa_cons pe_int (pa_cons pe_int pa_nil))))) (pa_cons (pe_tup (pa_cons (pv 1) (pa_cons (pe_callTy call_tuple_of (by rfl) M.tuple (by decide +kernel) (pa_cons (pe_lc (own := [("_law_one", 7)]) (g := (gName 7)) (tt := tYes) rfl sc_l_more.nd (pi_tup (pv 2)) (blkOk_by (N := N_l_more) (sc := defScope s_l_more) (own := [("_law_one", 7)]) (by decide +kernel)) (fun _ _ _ _ _ => (pg_name (i := 7) sc_l_more.nd rfl (.inl rfl))) (fun _ _ _ _ _ => pts_nil) (fun _ _ _ _ _ => (pe_op op_mul (pv 5) (pv 7)))) pa_nil)) (pa_cons (pv 5) (pa_cons pe_int pa_nil))))) pa_nil))))
      (pss_cons (ps_set (i := 11) sc_l_more.nd rfl (.inl rfl) (pe_call G_l_take (hr.mono (by decide)) (by rfl) g_l_take k_l_take b_l_take .nil pass0 (pa_cons (pv 0) (pa_cons (pv 3) pa_nil))))
      (pss_cons (ps_set (i := 12) sc_l_more.nd rfl (.inl rfl) (pe_tup (pa_cons (pv 11) (pa_cons (pv 3) (pa_cons (pe_ix ix_list (pe_lst (pa_cons pe_str (pa_cons pe_str pa_nil))) (pe_call G_l_take (hr.mono (by decide)) (by rfl) g_l_take k_l_take b_l_take .nil pass0 (pa_cons (pv 0) (pa_cons pe_int pa_nil))) (fun _ _ => rfl)) pa_nil)))))
      (pss_cons (ps_expr (pe_bm PySem.F.plainAttrs_list PySem.F.slot_list_append PySem.F.type_list_append mt_append (pv 10) (pa_cons (pe_tup (pa_cons (pe_tup (pa_cons (pe_op op_add (pv 3) pe_int) (pa_cons (pe_op op_catU (pv 4) (pe_tup (pa_cons (pv 12) pa_nil))) pa_nil))) (pa_cons (pe_op op_catU (pv 2) (pe_tup (pa_cons (pe_op op_add pe_int (pe_call G_l_take (hr.mono (by decide)) (by rfl) g_l_take k_l_take b_l_take .nil pass0 (pa_cons (pv 0) (pa_cons pe_int pa_nil)))) pa_nil))) (pa_cons pe_int (pa_cons pe_int pa_nil))))) pa_nil)))
      (Evl.pss_cut (ps_if (pt_cmpR op_gt (pv 3) pe_int (nomark _))
        (pss_cons (ps_set (i := 13) sc_l_more.nd rfl (.inl rfl) (pe_op op_mod (pe_op op_add (pe_op op_add (pv 11) pe_int) (pe_call G_l_take (hr.mono (by decide)) (by rfl) g_l_take k_l_take b_l_take .nil pass0 (pa_cons (pv 0) (pa_cons (pe_op op_sub (pv 3) pe_int) pa_nil)))) (pv 3)))
        (pss_cons (ps_set (i := 14) sc_l_more.nd rfl (.inl rfl) (pe_op op_add pe_int (pe_call G_l_take (hr.mono (by decide)) (by rfl) g_l_take k_l_take b_l_take .nil pass0 (pa_cons (pv 0) (pa_cons (pe_op op_pow pe_int pe_int) pa_nil)))))
        (pss_cons (ps_set (i := 15) sc_l_more.nd rfl (.inl rfl) (pe_tup (pa_cons (pe_tup (pa_cons (pv 11) (pa_cons (pv 13) (pa_cons pe_str pa_nil)))) (pa_cons (pe_tup (pa_cons (pv 13) (pa_cons (pv 11) (pa_cons pe_str pa_nil)))) pa_nil))))
        (pss_one (ps_expr (pe_bm PySem.F.plainAttrs_list PySem.F.slot_list_append PySem.F.type_list_append mt_append (pv 10) (pa_cons (pe_tup (pa_cons (pe_tup (pa_cons (pv 3) (pa_cons (pe_op op_catU (pe_op op_catU (pe_slice sl_tupU (pv 15) po_none (po_some pe_int)) (pv 4)) (pe_slice sl_tupU (pv 15) (po_some pe_int) po_none)) pa_nil))) (pa_cons (pe_op op_catU (pe_op op_catU (pe_tup (pa_cons (pv 14) pa_nil)) (pv 2)) (pe_tup (pa_cons (pv 14) pa_nil))) (pa_cons pe_int (pa_cons (pv 14) pa_nil))))) pa_nil)))))))
        pss_nil)
      (Evl.pss_cut (ps_if (pt_cmpR (op_neTE hr.units0) (pv 4) (pe_tup pa_nil) (nomark _))
        (pss_cons (ps_set (i := 16) sc_l_more.nd rfl (.inl rfl) (pe_call G_l_take (hr.mono (by decide)) (by rfl) g_l_take k_l_take b_l_take .nil pass0 (pa_cons (pv 0) (pa_cons (pe_callB call_len_seq (by rfl) M.len PySem.boot_len (pa_cons (pv 4) pa_nil)) pa_nil))))
        (pss_cons (ps_set (i := 17) sc_l_more.nd rfl (.inl rfl) (pe_op op_add pe_int (pe_call G_l_take (hr.mono (by decide)) (by rfl) g_l_take k_l_take b_l_take .nil pass0 (pa_cons (pv 0) (pa_cons (pe_ix ix_tup (pv 2) (pv 16) (fun _ _ => rfl)) pa_nil)))))
        (pss_one (ps_if (pt_cmpR op_lt (pv 17) (pe_ix ix_tup (pv 2) (pv 16) (fun _ _ => rfl)) (nomark _))
          (pss_cons (ps_set (i := 18) sc_l_more.nd rfl (.inl rfl) (pe_op op_catU (pe_op op_catU (pe_op op_catU (pe_slice sl_tupU (pv 2) po_none (po_some (pv 16))) (pe_tup (pa_cons (pv 17) pa_nil))) (pe_slice sl_tupU (pv 2) (po_some (pe_op op_add (pv 16) pe_int)) po_none)) (pe_tup (pa_cons (pe_op op_sub (pe_ix ix_tup (pv 2) (pv 16) (fun _ _ => rfl)) (pv 17)) pa_nil))))
          (pss_one (ps_expr (pe_bm PySem.F.plainAttrs_list PySem.F.slot_list_append PySem.F.type_list_append mt_append (pv 10) (pa_cons (pe_tup (pa_cons (pe_tup (pa_cons (pv 3) (pa_cons (pe_op op_catU (pv 4) (pe_tup (pa_cons (pe_ix ix_tup (pv 6) (pv 16) (fun _ _ => rfl)) pa_nil))) pa_nil))) (pa_cons (pv 18) (pa_cons pe_int (pa_cons pe_int pa_nil))))) pa_nil)))))
          pss_nil))))
        pss_nil)
      (pss_one (ps_ret (pv 10)))))))))))), ?_⟩
    obtain ⟨wa, wb, us, rfl, hwa, hwb, hp⟩ := id hW
    have lus : us.length = ts.length := Paired.length hp
    have n1 := ok.lo
    refine ⟨.ref wa, rfl, wa, _, rfl, SqT.of hwa, rfl, _, _, rfl, _, _, rfl, rfl, ?_⟩
    refine ⟨.ref d, rfl, d, c, rfl, hD, fun lo H1 l0 D1 K1 => ⟨10, 20, rfl, rfl, ⟨by decide, by decide, by decide⟩, lo, _, rfl, rfl, (show (0 : Int) < 10 ^ (20 : Int).toNat by decide), 1, _, rfl, rfl, ?_⟩⟩
    show (tSeq _ _ : L2.TS) _ [some (.ref d), some (.ref wa), some (.ref g), some (.int n), some (.ref wb), some (.int (1 + lo % 10 ^ (20 : Int).toNat)), none, none, none, none, none, none, none, none, none, none, none, none, none] H1
    have t1 : 1 ≤ 1 + lo % 10 ^ (20 : Int).toNat := by
      have := Int.emod_nonneg lo (b := 10 ^ (20 : Int).toNat) (by decide)
      omega
    generalize (1 + lo % 10 ^ (20 : Int).toNat) = T at t1
    have tk1 := K1.tk hD
    -- about
    refine ⟨.ref wb, rfl, wb, rfl, ⟨_, SqT.of (tk1 _ _ hwb)⟩, fun Z nZ => ?_⟩
    refine lc_tup (xs := us) (fun j H' => ∃ zs : List V, H' Z = some (.lst zs) ∧ Paired (TieV H') zs ((ts.take j).map swapT) ∧ Same H1 H') ⟨[], upd_same, .nil, same_new nZ⟩ (fun j H' _ h => by
      obtain ⟨zs, _, _, s⟩ := h
      exact SqT.of (s _ _ (tk1 _ _ hwb))) ?_ ?_
    · rintro j x H3 ex ⟨zs, hZ, hzs, s3⟩
      obtain ⟨t, et, a, rfl, ha⟩ := Paired.at hp ex
      have jl := (List.getElem?_eq_some_iff.mp ex).1
      have lz : zs.length = j := by rw [Paired.length hzs, List.length_map, List.length_take]; omega
      refine ⟨a, _, rfl, SqT.of (s3 _ _ (tk1 _ _ ha)), rfl, _, _, rfl, _, _, rfl, _, _, rfl, rfl, rfl, ?_⟩
      refine ⟨.int t.other, rfl, .int t.one, rfl, .str (kindS t.foe), rfl, by show 3 ≤ sizeLine; decide, fun o no => ?_⟩
      have s4 := same_new (o := .tup [.int t.other, .int t.one, .str (kindS t.foe)]) no
      have hZ4 := s4 _ _ hZ
      refine ⟨_, hZ4, small1000 (by omega), zs ++ [.ref o], upd_same, ?_, Same.mut (s3.trans s4) nZ⟩
      rw [List.take_add_one, et, List.map_append]
      exact Paired.snoc (ties_tk (tk_lst hZ4) (ties_tk (Same.tk s4) hzs)) ⟨o, rfl, tk_lst hZ4 _ _ upd_same⟩
    rintro H3 ⟨zs, hZ, hzs, s3⟩
    rw [List.take_of_length_le (by omega)] at hzs
    have lzs : zs.length = ts.length := by rw [Paired.length hzs, List.length_map]
    refine ⟨Z, _, rfl, .inl ⟨SqL.of hZ, fun ab nab => ?_⟩⟩
    have s4 := same_new (o := .tup zs) nab
    have hab : (upd H3 ab (.tup zs)) ab = some (.tup zs) := upd_same
    have pab := ties_tk (Same.tk s4) hzs
    have D4 := D1.same (s3.trans s4)
    have K4 := K1.trans (Kp.same8 (d := d) (c := c) (s3.trans s4))
    generalize upd H3 ab (.tup zs) = H4 at hab pab D4 K4
    clear hZ hzs s3 s4 nZ nab D1 K1 tk1
    have tk4 := K4.tk hD
    -- doubled
    refine ⟨.int n, rfl, .ref wb, rfl, .ref ab, rfl, wb, ab, _, _, rfl, rfl, tk4 _ _ hwb, hab, by omega, fun r5 H5 s5 h5 => ?_⟩
    refine ⟨by show 2 ≤ sizeLine; decide, fun o6 n6 => ?_⟩
    have s6 := same_new (o := .tup [.int n, .ref r5]) n6
    have h6 : (upd H5 o6 (.tup [.int n, .ref r5])) o6 = some (.tup [.int n, .ref r5]) := upd_same
    have web6 : WebAt (upd H5 o6 (.tup [.int n, .ref r5])) (.ref o6) n (ts ++ ts.map swapT) := ⟨o6, r5, _, rfl, h6, s6 _ _ h5, paired_append (ties_tk (tk4.trans (Same.tk (s5.trans s6))) hp) (ties_tk (Same.tk (s5.trans s6)) pab)⟩
    have s46 := s5.trans s6
    generalize upd H5 o6 (.tup [.int n, .ref r5]) = H6 at web6 s46
    clear h5 h6 s5 s6 n6
    have tk6 := tk4.trans (Same.tk s46)
    refine ⟨.ref g, rfl, .ref g, rfl, g, g, _, _, rfl, rfl, tk6 _ _ hg, tk6 _ _ hg, by rw [List.length_map]; omega, fun r7 H7 s7 h7 => ?_⟩
    rw [← List.map_append] at h7
    refine ⟨by show 4 ≤ sizeLine; decide, fun o8 n8 => ?_⟩
    have s8 := same_new (o := .tup [.ref o6, .ref r7, .int 2, .int 0]) n8
    have m8 : MoreR (upd H7 o8 (.tup [.ref o6, .ref r7, .int 2, .int 0])) ts ws (.ref o8) := ⟨o8, .ref o6, r7, n, ts ++ ts.map swapT, ws ++ ws, 2, 0, rfl, upd_same, (web6.tk (Same.tk s7)).tk (Same.tk s8), ok_app ok (by rw [List.length_map]; omega) (fun t ht => by
      obtain ⟨s, hs, rfl⟩ := List.mem_map.mp ht
      exact swap_ok (ok.ok s hs)), by omega, by rw [List.length_append, List.length_map]; omega, s8 _ _ h7, by rw [List.length_append, List.length_append, List.length_map]; omega, fun x hx => (List.mem_append.mp hx).elim (fun h => (w1 x h).1) (fun h => (w1 x h).1), fun v mv => by
        have e : (ts ++ ts.map swapT).zip (ws ++ ws) = ts.zip ws ++ (ts.zip ws).map fun z => (swapT z.1, z.2) := by
          rw [List.zip_append lw.symm, List.zip_map_left]
          rfl
        rw [e, show 2 * v + 0 = 2 * v by omega]
        exact mv.double⟩
    have s68 := s7.trans s8
    generalize upd H7 o8 (.tup [.ref o6, .ref r7, .int 2, .int 0]) = H8 at m8 s68
    clear h7 s7 s8 n8
    have s48 := s46.trans s68
    have tk8 := tk4.trans (Same.tk s48)
    -- as many times
    refine ⟨.ref wa, rfl, .ref g, rfl, g, rfl, ⟨_, SqT.of (tk8 _ _ hg)⟩, fun Y nY => ?_⟩
    refine lc_tup (xs := ws.map V.int) (fun j H' => H' Y = some (.lst (((ws.take j).map fun w => T * w).map V.int)) ∧ Same H8 H') ⟨upd_same, same_new nY⟩ (fun j H' _ h => SqT.of (h.2 _ _ (tk8 _ _ hg))) ?_ ?_
    · rintro j x H9 ex ⟨hY, s9⟩
      rw [List.getElem?_map] at ex
      obtain ⟨w, hw, rfl⟩ := Option.map_eq_some_iff.mp ex
      have jl := (List.getElem?_eq_some_iff.mp hw).1
      obtain ⟨w2, w3⟩ := w1 w (List.mem_of_getElem? hw)
      refine ⟨rfl, .int T, rfl, .int w, rfl, T, w, rfl, rfl, .inr ⟨by omega, by omega⟩, _, hY, ?_, ?_, Same.mut s9 nY⟩
      · rw [List.length_map, List.length_map, List.length_take]
        exact small1000 (by omega)
      · rw [upd_same, List.take_add_one, hw, List.map_append, List.map_append]
        rfl
    rintro H9 ⟨hY, s9⟩
    rw [List.length_map, List.take_length] at hY
    refine ⟨Y, _, rfl, .inl ⟨SqL.of hY, fun r10 n10 => ⟨.int T, rfl, by show 4 ≤ sizeLine; decide, fun o11 n11 => ?_⟩⟩⟩
    have s10 := same_new (o := .tup ((ws.map fun w => T * w).map V.int)) n10
    have s11 := same_new (o := .tup [.ref wa, .ref r10, .int T, .int 0]) n11
    have s811 := (s9.trans s10).trans s11
    have zt : ts.zip (ws.map fun w => T * w) = (ts.zip ws).map fun z => (z.1, T * z.2) := by
      rw [List.zip_map_right]
      rfl
    have m11 : MoreR (upd (upd H9 r10 (.tup ((ws.map fun w => T * w).map V.int))) o11 (.tup [.ref wa, .ref r10, .int T, .int 0])) ts ws (.ref o11) := ⟨o11, .ref wa, r10, n, ts, ws.map fun w => T * w, T, 0, rfl, upd_same, hW.tk (tk8.trans (Same.tk s811)), ok, by omega, by omega, s11 _ _ upd_same, by rw [List.length_map]; exact lw, fun x hx => by
      obtain ⟨w, hw, rfl⟩ := List.mem_map.mp hx
      have := (w1 w hw).1
      have := Int.mul_le_mul t1 this (by omega) (by omega)
      omega, fun v mv => by
        rw [zt, show T * v + 0 = T * v by omega]
        exact mv.scale t1⟩
    have m8' := m8.tk (Same.tk s811)
    generalize upd (upd H9 r10 (.tup ((ws.map fun w => T * w).map V.int))) o11 (.tup [.ref wa, .ref r10, .int T, .int 0]) = H11 at s811 m11 m8'
    clear hY s9 s10 s11 n10 n11 m8 nY
    refine ⟨by show 2 ≤ sizeLine; decide, fun G nG => ?_⟩
    have sG := same_new (o := .lst [.ref o8, .ref o11]) nG
    have s4G := (s48.trans s811)
    have DG := (D4.same s4G).new (o := .lst [.ref o8, .ref o11]) nG
    have KG := (K4.trans (Kp.same8 s4G)).trans (Kp.new (d := d) (c := c) (o := .lst [.ref o8, .ref o11]) nG)
    have Gn := (D4.same s4G).ned nG
    have nG0 : H G = none := (K4.trans (Kp.same8 s4G)).free nG Gn.1 Gn.2
    have mi : MI H d c G ts ws [.ref o8, .ref o11] (upd H11 G (.lst [.ref o8, .ref o11])) := ⟨upd_same, fun r hr => by
      simp only [List.mem_cons, List.not_mem_nil, or_false] at hr
      rcases hr with rfl | rfl
      · exact m8'.tk (Same.tk sG)
      · exact m11.tk (Same.tk sG), DG, KG⟩
    have habG : (upd H11 G (.lst [.ref o8, .ref o11])) ab = some (.tup zs) := sG _ _ (s4G _ _ hab)
    have pabG := ties_tk (Same.tk (s4G.trans sG)) pab
    generalize upd H11 G (.lst [.ref o8, .ref o11]) = H12 at mi habG pabG
    clear sG s4G DG KG nG m8' m11 s811 s48 s68 s46 web6 tk8 tk6 tk4 hab pab D4 K4
    -- a leaf
    refine ⟨.ref d, rfl, .int n, rfl, d, c, n, rfl, mi.w, by omega, nab9 (by omega) (by omega), fun pl H13 a13 b13 D13 K13 => ?_⟩
    have mi13 := mi.draw Gn D13 K13
    have hab13 := K13.tk mi.w _ _ habG
    have pab13 := ties_tk (K13.tk mi.w) pabG
    clear mi habG pabG D13 K13
    refine ⟨.int pl, rfl, .int n, rfl, by show 2 ≤ sizeLine; decide, fun l14 n14 => ?_⟩
    have s14 := same_new (o := .lst [.str "friend", .str "foe"]) n14
    have h14 : (upd H13 l14 (.lst [.str "friend", .str "foe"])) l14 = some (.lst [.str "friend", .str "foe"]) := upd_same
    have mi14 := mi13.same s14
    have n14' := mi13.w.ned n14
    have hab14 := s14 _ _ hab13
    have pab14 := ties_tk (Same.tk s14) pab13
    generalize upd H13 l14 (.lst [.str "friend", .str "foe"]) = H14 at h14 mi14 hab14 pab14
    clear mi13 hab13 pab13 s14 n14
    refine ⟨.ref d, rfl, d, c, 2, rfl, mi14.w, by decide, by decide, fun kk H15 a15 b15 D15 K15 => ?_⟩
    have mi15 := mi14.draw Gn D15 K15
    have hab15 := K15.tk mi14.w _ _ hab14
    have pab15 := ties_tk (K15.tk mi14.w) pab14
    obtain ⟨fo, efo⟩ := kinds_pick a15 b15
    refine ⟨l14, _, kk, _, rfl, rfl, SqL.of (K15 _ _ n14'.1 n14'.2 h14), efo, by show 3 ≤ sizeLine; decide, fun lf n16 => ?_⟩
    have s16 := same_new (o := .tup [.int pl, .int n, .str (kindS fo)]) n16
    have hlf : (upd H15 lf (.tup [.int pl, .int n, .str (kindS fo)])) lf = some (.tup [.int pl, .int n, .str (kindS fo)]) := upd_same
    have mi16 := mi15.same s16
    have hab16 := s16 _ _ hab15
    have pab16 := ties_tk (Same.tk s16) pab15
    generalize upd H15 lf (.tup [.int pl, .int n, .str (kindS fo)]) = H16 at hlf mi16 hab16 pab16
    clear mi14 mi15 hab14 hab15 pab14 pab15 s16 n16 D15 K15 h14
    have tk16 := mi16.k.tk hD
    have lapp : ∀ (a b : List V), a.length ≤ 100 → b.length ≤ 100 → a.length + b.length ≤ 100000 := fun a b h1 h2 => by omega
    refine ⟨.ref G, rfl, .inl ⟨rfl, _, SqL.of mi16.g⟩, .int n, rfl, n, 1, rfl, rfl, .ref wb, rfl, .ref lf, rfl, by show 1 ≤ sizeLine; decide, fun o17 n17 => ?_⟩
    have s17 := same_new (o := .tup [.ref lf]) n17
    have h17 : (upd H16 o17 (.tup [.ref lf])) o17 = some (.tup [.ref lf]) := upd_same
    generalize upd H16 o17 (.tup [.ref lf]) = H17 at s17 h17
    refine ⟨wb, o17, _, _, rfl, rfl, s17 _ _ (tk16 _ _ hwb), h17, lapp _ _ (by omega) (by show 1 ≤ 100; decide), fun r18 H18 s18 h18 => ⟨by show 2 ≤ sizeLine; decide, fun o19 n19 => ?_⟩⟩
    have s19 := same_new (o := .tup [.int ((n : Int) + 1), .ref r18]) n19
    have s1619 := (s17.trans s18).trans s19
    have web19 : WebAt (upd H18 o19 (.tup [.int ((n : Int) + 1), .ref r18])) (.ref o19) ((n + 1 : Nat) : Int) (ts ++ [⟨pl, n, fo⟩]) := ⟨o19, r18, _, rfl, upd_same, s19 _ _ h18, paired_append (ties_tk (tk16.trans (Same.tk s1619)) hp) (.cons ⟨lf, rfl, s1619 _ _ hlf⟩ .nil)⟩
    generalize upd H18 o19 (.tup [.int ((n : Int) + 1), .ref r18]) = H19 at s1619 web19
    clear s17 s18 s19 h17 h18 n17 n19
    refine ⟨.ref g, rfl, .ref d, rfl, d, c, 9, rfl, (mi16.same s1619).w, by decide, by decide, fun x9 H20 a20 b20 D20 K20 => ?_⟩
    have mi20 := (mi16.same s1619).draw Gn D20 K20
    have web20 := web19.tk (K20.tk (mi16.same s1619).w)
    have hab20 := K20.tk (mi16.same s1619).w _ _ (s1619 _ _ hab16)
    have pab20 := ties_tk (K20.tk (mi16.same s1619).w) (ties_tk (Same.tk s1619) pab16)
    have tk20 := mi20.k.tk hD
    clear mi16 hab16 pab16 tk16 web19 D20 K20 s1619 hlf
    refine ⟨1, x9, rfl, rfl, by show 1 ≤ sizeLine; decide, fun o21 n21 => ?_⟩
    have s21 := same_new (o := .tup [.int (1 + x9)]) n21
    have h21 : (upd H20 o21 (.tup [.int (1 + x9)])) o21 = some (.tup [.int (1 + x9)]) := upd_same
    generalize upd H20 o21 (.tup [.int (1 + x9)]) = H21 at s21 h21
    refine ⟨g, o21, _, _, rfl, rfl, s21 _ _ (tk20 _ _ hg), h21, lapp _ _ (by rw [List.length_map]; omega) (by show 1 ≤ 100; decide), fun r22 H22 s22 h22 => ?_⟩
    have h22 : H22 r22 = some (.tup ((ws ++ [1 + x9]).map V.int)) := by rw [h22, List.map_append]; rfl
    refine ⟨by show 4 ≤ sizeLine; decide, fun o23 n23 => ?_⟩
    have s23 := same_new (o := .tup [.ref o19, .ref r22, .int 1, .int 0]) n23
    have s2023 := (s21.trans s22).trans s23
    have m23 : MoreR (upd H22 o23 (.tup [.ref o19, .ref r22, .int 1, .int 0])) ts ws (.ref o23) := ⟨o23, .ref o19, r22, n + 1, ts ++ [⟨pl, n, fo⟩], ws ++ [1 + x9], 1, 0, rfl, upd_same, web20.tk (Same.tk s2023), ⟨by omega, by omega, by rw [List.length_append]; show ts.length + 1 ≤ 120; omega, fun t ht => by
      rcases List.mem_append.mp ht with h | h
      · obtain ⟨p1, p2, p3, p4, p5⟩ := ok.ok t h
        exact ⟨p1, by omega, p3, by omega, p5⟩
      · rw [List.mem_singleton.mp h]
        exact ⟨a13, by show pl < _; omega, by show (0 : Int) ≤ n; omega, by show (n : Int) < _; omega, by show pl ≠ n; omega⟩⟩, by omega, by rw [List.length_append]; show ts.length + 1 ≤ 60; omega, s23 _ _ h22, by rw [List.length_append, List.length_append, lw]; rfl, fun x hx => by
      rcases List.mem_append.mp hx with h | h
      · exact (w1 x h).1
      · rw [List.mem_singleton.mp h]
        omega, fun v mv => by
        rw [List.zip_append lw.symm, show 1 * v + 0 = v by omega]
        refine mv.leaf (fun z hz => ?_) (by omega) (by omega)
        obtain ⟨p1, p2, p3, p4, _⟩ := ok.ok z.1 (List.of_mem_zip (show (z.1, z.2) ∈ ts.zip ws from hz)).1
        omega⟩
    have mi23 := mi20.same s2023
    have hab23 := s2023 _ _ hab20
    have pab23 := ties_tk (Same.tk s2023) pab20
    generalize upd H22 o23 (.tup [.ref o19, .ref r22, .int 1, .int 0]) = H23 at m23 mi23 hab23 pab23
    clear mi20 hab20 pab20 web20 s2023 s21 s22 s23 h21 h22 n21 n23 tk20
    refine ⟨G, _, .ref o23, rfl, rfl, mi23.g, by show 2 < sizeLine; decide, ?_⟩
    have mi24 := mi23.push Gn nG0 m23
    have hab24 := tk_lst mi23.g (ys := [V.ref o8, .ref o11] ++ [.ref o23]) _ _ hab23
    have pab24 := ties_tk (tk_lst mi23.g (ys := [V.ref o8, .ref o11] ++ [.ref o23])) pab23
    generalize upd H23 G (.lst ([V.ref o8, .ref o11] ++ [.ref o23])) = H24 at mi24 hab24 pab24
    clear mi23 hab23 pab23 m23
    -- a pair
    refine ⟨fun σ' H' => ∃ (rows : List V) (y13 y14 y15 : Option V), σ' = [some (.ref d), some (.ref wa), some (.ref g), some (.int n), some (.ref wb), some (.int T), some (.ref ab), none, none, none, some (.ref G), some (.int pl), some (.ref lf), y13, y14, y15, none, none, none] ∧ MI H d c G ts ws rows H' ∧ rows.length ≤ 6 ∧ H' ab = some (.tup zs) ∧ Paired (TieV H') zs (ts.map swapT), ?_, ?_⟩
    · refine ⟨.int n, rfl, n, 1, rfl, rfl, _, rfl, ?_⟩
      refine ite2 (fun hn => ?_) (fun hn => ⟨_, none, none, none, rfl, mi24, by show 3 ≤ 6; decide, hab24, pab24⟩)
      have hn := of_decide_eq_true hn
      refine ⟨.int pl, rfl, pl, 1, rfl, rfl, .ref d, rfl, .int n, rfl, n, 1, rfl, rfl, d, c, (n : Int) - 1, rfl, mi24.w, by omega, nab9 (by omega) (by omega), fun th H25 a25 b25 D25 K25 => ⟨_, _, rfl, rfl, .int n, rfl, _, n, rfl, rfl, by omega, ?_⟩⟩
      have mi25 := mi24.draw Gn D25 K25
      have hab25 := K25.tk mi24.w _ _ hab24
      have pab25 := ties_tk (K25.tk mi24.w) pab24
      show (tSeq _ _ : L2.TS) _ [some (.ref d), some (.ref wa), some (.ref g), some (.int n), some (.ref wb), some (.int T), some (.ref ab), none, none, none, some (.ref G), some (.int pl), some (.ref lf), some (.int ((pl + 1 + th) % (n : Int))), none, none, none, none, none] H25
      obtain ⟨q0, q1⟩ : 0 ≤ (pl + 1 + th) % (n : Int) ∧ (pl + 1 + th) % (n : Int) < n := ⟨Int.emod_nonneg _ (by omega), Int.emod_lt_of_pos _ (by omega)⟩
      have q2 : pl ≠ (pl + 1 + th) % (n : Int) := by
        by_cases z : pl + 1 + th < n
        · rw [Int.emod_eq_of_lt (by omega) z]; omega
        · rw [← Int.sub_emod_right, Int.emod_eq_of_lt (by omega) (by omega)]; omega
      generalize (pl + 1 + th) % (n : Int) = th' at q0 q1 q2
      clear mi24 hab24 pab24 D25 K25
      refine ⟨.ref d, rfl, 10, 9, rfl, rfl, ⟨by decide, by decide, by decide⟩, d, c, _, rfl, mi25.w, by decide, by decide, fun hv H26 a26 b26 D26 K26 => ⟨1, hv, rfl, rfl, ?_⟩⟩
      have mi26 := mi25.draw Gn D26 K26
      have hab26 := K26.tk mi25.w _ _ hab25
      have pab26 := ties_tk (K26.tk mi25.w) pab25
      have tk26 := mi26.k.tk hD
      clear mi25 hab25 pab25 D26 K26
      refine ⟨.int pl, rfl, .int th', rfl, by show 3 ≤ sizeLine; decide, fun o27 n27 => ?_⟩
      have s27 := same_new (o := .tup [.int pl, .int th', .str "friend"]) n27
      have h27 : (upd H26 o27 (.tup [.int pl, .int th', .str "friend"])) o27 = some (.tup [.int pl, .int th', .str (kindS false)]) := upd_same
      generalize upd H26 o27 (.tup [.int pl, .int th', .str "friend"]) = H27 at s27 h27
      refine ⟨.int th', rfl, .int pl, rfl, by show 3 ≤ sizeLine; decide, fun o28 n28 => ?_⟩
      have s28 := same_new (o := .tup [.int th', .int pl, .str "foe"]) n28
      have h28 : (upd H27 o28 (.tup [.int th', .int pl, .str "foe"])) o28 = some (.tup [.int th', .int pl, .str (kindS true)]) := upd_same
      generalize upd H27 o28 (.tup [.int th', .int pl, .str "foe"]) = H28 at s28 h28
      refine ⟨by show 2 ≤ sizeLine; decide, fun o29 n29 => ?_⟩
      have s29 := same_new (o := .tup [.ref o27, .ref o28]) n29
      have h29 : (upd H28 o29 (.tup [.ref o27, .ref o28])) o29 = some (.tup [.ref o27, .ref o28]) := upd_same
      generalize upd H28 o29 (.tup [.ref o27, .ref o28]) = H29 at s29 h29
      have s2629 := (s27.trans s28).trans s29
      refine ⟨.ref G, rfl, .inl ⟨rfl, _, SqL.of (s2629 _ _ mi26.g)⟩, .int n, rfl, .ref o29, rfl, 1, rfl, o29, _, rfl, h29, fun r30 H30 s30 h30 => ⟨.ref wb, rfl, r30, wb, _, _, rfl, rfl, h30, s30 _ _ (s2629 _ _ (tk26 _ _ hwb)), ?_, fun r31 H31 s31 h31 => ?_⟩⟩
      · show 1 + us.length ≤ 100000; omega
      refine ⟨.ref o29, rfl, 1, rfl, o29, _, rfl, s31 _ _ (s30 _ _ h29), fun r32 H32 s32 h32 => ⟨r31, r32, _, _, rfl, rfl, s32 _ _ h31, h32, ?_, fun r33 H33 s33 h33 => ⟨by show 2 ≤ sizeLine; decide, fun o34 n34 => ?_⟩⟩⟩
      · rw [List.length_append]; show 1 + us.length + 1 ≤ 100000; omega
      have s34 := same_new (o := .tup [.int n, .ref r33]) n34
      have s2934 := (((s30.trans s31).trans s32).trans s33).trans s34
      have web34 : WebAt (upd H33 o34 (.tup [.int n, .ref r33])) (.ref o34) n ((⟨pl, th', false⟩ :: ts) ++ [⟨th', pl, true⟩]) := ⟨o34, r33, (.ref o27 :: us) ++ [.ref o28], rfl, upd_same, s34 _ _ h33, paired_append (.cons ⟨o27, rfl, s2934 _ _ (s29 _ _ (s28 _ _ h27))⟩ (ties_tk (tk26.trans (Same.tk (s2629.trans s2934))) hp)) (.cons ⟨o28, rfl, s2934 _ _ (s29 _ _ h28)⟩ .nil)⟩
      have s2634 := s2629.trans s2934
      generalize upd H33 o34 (.tup [.int n, .ref r33]) = H34 at web34 s2634
      clear s2934 s2629 s27 s28 s29 s30 s31 s32 s33 s34 h27 h28 h29 h30 h31 h32 h33 n27 n28 n29 n34
      have g34 := s2634 _ _ (tk26 _ _ hg)
      refine ⟨.int (1 + hv), rfl, by show 1 ≤ sizeLine; decide, fun o35 n35 => ?_⟩
      have s35 := same_new (o := .tup [.int (1 + hv)]) n35
      have h35 : (upd H34 o35 (.tup [.int (1 + hv)])) o35 = some (.tup [.int (1 + hv)]) := upd_same
      generalize upd H34 o35 (.tup [.int (1 + hv)]) = H35 at s35 h35
      refine ⟨.ref g, rfl, o35, g, _, _, rfl, rfl, h35, s35 _ _ g34, ?_, fun r36 H36 s36 h36 => ?_⟩
      · rw [List.length_map]; show 1 + ws.length ≤ 100000; omega
      refine ⟨.int (1 + hv), rfl, by show 1 ≤ sizeLine; decide, fun o37 n37 => ?_⟩
      have s37 := same_new (o := .tup [.int (1 + hv)]) n37
      have h37 : (upd H36 o37 (.tup [.int (1 + hv)])) o37 = some (.tup [.int (1 + hv)]) := upd_same
      generalize upd H36 o37 (.tup [.int (1 + hv)]) = H37 at s37 h37
      refine ⟨r36, o37, _, _, rfl, rfl, s37 _ _ h36, h37, ?_, fun r38 H38 s38 h38 => ?_⟩
      · rw [List.length_append, List.length_map]; show 1 + ws.length + 1 ≤ 100000; omega
      have h38 : H38 r38 = some (.tup ((((1 + hv) :: ws) ++ [1 + hv]).map V.int)) := by rw [h38, List.map_append]; rfl
      refine ⟨.int (1 + hv), rfl, by show 4 ≤ sizeLine; decide, fun o39 n39 => ?_⟩
      have s39 := same_new (o := .tup [.ref o34, .ref r38, .int 1, .int (1 + hv)]) n39
      have s3439 := (((s35.trans s36).trans s37).trans s38).trans s39
      have m39 : MoreR (upd H38 o39 (.tup [.ref o34, .ref r38, .int 1, .int (1 + hv)])) ts ws (.ref o39) := ⟨o39, .ref o34, r38, n, _, _, 1, 1 + hv, rfl, upd_same, web34.tk (Same.tk s3439), ⟨by omega, by omega, by rw [List.length_append]; show ts.length + 1 + 1 ≤ 120; omega, fun t ht => by
        rcases List.mem_append.mp ht with h | h
        · rcases List.mem_cons.mp h with h | h
          · rw [h]
            exact ⟨a13, b13, q0, q1, q2⟩
          · exact ok.ok t h
        · rw [List.mem_singleton.mp h]
          exact ⟨q0, q1, a13, b13, fun z => q2 z.symm⟩⟩, by omega, by rw [List.length_append]; show ts.length + 1 + 1 ≤ 60; omega, s39 _ _ h38, by rw [List.length_append, List.length_append]; show ws.length + 1 + 1 = ts.length + 1 + 1; omega, fun x hx => by
        rcases List.mem_append.mp hx with h | h
        · rcases List.mem_cons.mp h with h | h
          · rw [h]; omega
          · exact (w1 x h).1
        · rw [List.mem_singleton.mp h]; omega, fun v mv => by
          have e : ((⟨pl, th', false⟩ :: ts) ++ [⟨th', pl, true⟩] : List Tie).zip (((1 + hv) :: ws) ++ [1 + hv]) = (⟨pl, th', false⟩, 1 + hv) :: (ts.zip ws ++ [(⟨th', pl, true⟩, 1 + hv)]) := by
            rw [List.zip_append (by show ts.length + 1 = ws.length + 1; omega)]
            rfl
          rw [e, show 1 * v + (1 + hv) = v + (1 + hv) by omega]
          exact mv.pair pl th' (1 + hv)⟩
      have s2639 := s2634.trans s3439
      generalize upd H38 o39 (.tup [.ref o34, .ref r38, .int 1, .int (1 + hv)]) = H39 at m39 s2639
      have mi39 := mi26.same s2639
      have hab39 := s2639 _ _ hab26
      have pab39 := ties_tk (Same.tk s2639) pab26
      refine ⟨G, _, .ref o39, rfl, rfl, mi39.g, by show 3 < sizeLine; decide, ?_⟩
      exact ⟨_, _, _, _, rfl, mi39.push Gn nG0 m39, by show 4 ≤ 6; decide, tk_lst mi39.g _ _ hab39, ties_tk (tk_lst mi39.g) pab39⟩
    clear mi24 hab24 pab24
    rintro σ' H25 ⟨rows, y13, y14, y15, rfl, mi25, lr, hab25, pab25⟩
    have tk25 := mi25.k.tk hD
    -- a tie split
    refine ⟨fun σ' H' => ∃ (rows : List V) (y16 y17 y18 : Option V), σ' = [some (.ref d), some (.ref wa), some (.ref g), some (.int n), some (.ref wb), some (.int T), some (.ref ab), none, none, none, some (.ref G), some (.int pl), some (.ref lf), y13, y14, y15, y16, y17, y18] ∧ MI H d c G ts ws rows H' ∧ rows.length ≤ 7, ?_, ?_⟩
    · refine ⟨.ref wb, rfl, by show 0 ≤ sizeLine; decide, fun e1 ne1 => ⟨wb, e1, us, rfl, rfl, SqT.of (same_new ne1 _ _ (tk25 _ _ hwb)), SqT.of upd_same, _, rfl, ?_⟩⟩
      have sE := same_new (o := .tup []) ne1
      have mi26 := mi25.same sE
      have hab26 := sE _ _ hab25
      have pab26 := ties_tk (Same.tk sE) pab25
      generalize upd H25 e1 (.tup []) = H26 at mi26 hab26 pab26
      have tk26 := mi26.k.tk hD
      cases hue : us.isEmpty with
      | true => exact ⟨_, _, _, _, rfl, mi26, by omega⟩
      | false =>
      have upos : 0 < us.length := by
        cases us with
        | nil => cases hue
        | cons a b => simp
      refine ⟨.ref d, rfl, .ref wb, rfl, wb, _, rfl, .inr (SqT.of (tk26 _ _ hwb)), d, c, _, rfl, mi26.w, by omega, nab9 (by omega) (by omega), fun k H27 a27 b27 D27 K27 => ?_⟩
      have mi27 := mi26.draw Gn D27 K27
      have hab27 := K27.tk mi26.w _ _ hab26
      have pab27 := ties_tk (K27.tk mi26.w) pab26
      have tk27 := mi27.k.tk hD
      obtain ⟨wk, hwk⟩ : ∃ wk, ws[k.toNat]? = some wk := ⟨_, List.getElem?_eq_getElem (by omega)⟩
      obtain ⟨wk1, wk2⟩ := w1 wk (List.mem_of_getElem? hwk)
      have awk : atI (ws.map V.int) k = some (.int wk) := atI_of a27 (by rw [List.getElem?_map, hwk]; rfl)
      refine ⟨.ref d, rfl, .ref g, rfl, .int k, rfl, g, _, k, _, rfl, rfl, SqT.of (tk27 _ _ hg), awk, d, c, wk, rfl, mi27.w, by omega, nab9 (by omega) (by omega), fun ls H28 a28 b28 D28 K28 => ⟨1, ls, rfl, rfl, ?_⟩⟩
      have mi28 := mi27.draw Gn D28 K28
      have hab28 := K28.tk mi27.w _ _ hab27
      have pab28 := ties_tk (K28.tk mi27.w) pab27
      have tk28 := mi28.k.tk hD
      have g28 := tk28 _ _ hg
      refine ⟨.int (1 + ls), rfl, .ref g, rfl, .int k, rfl, g, _, k, _, rfl, rfl, SqT.of g28, awk, _, wk, rfl, rfl, _, rfl, ?_⟩
      refine ite2 (fun hlt => ?_) (fun _ => ⟨_, _, _, _, rfl, mi28, by omega⟩)
      have hlt := of_decide_eq_true hlt
      clear mi25 mi26 mi27 hab25 hab26 hab27 pab25 pab26 pab27 tk25 tk26 tk27 sE ne1 D27 K27 D28 K28
      -- lighter
      refine ⟨.ref g, rfl, .int k, rfl, _, rfl, g, _, rfl, g28, fun r29 H29 s29 h29 => ?_⟩
      refine ⟨.int (1 + ls), rfl, by show 1 ≤ sizeLine; decide, fun o30 n30 => ?_⟩
      have s30 := same_new (o := .tup [.int (1 + ls)]) n30
      have h30 : (upd H29 o30 (.tup [.int (1 + ls)])) o30 = some (.tup [.int (1 + ls)]) := upd_same
      generalize upd H29 o30 (.tup [.int (1 + ls)]) = H30 at s30 h30
      have cvl : ∀ lo hi, (cutV (ws.map V.int) lo hi).length ≤ 20 := fun lo hi => by
        have := cutV_length (ws.map V.int) lo hi
        rw [List.length_map] at this
        omega
      refine ⟨r29, o30, _, _, rfl, rfl, s30 _ _ h29, h30, ?_, fun r31 H31 s31 h31 => ?_⟩
      · have := cvl none (some k)
        show _ + 1 ≤ 100000
        omega
      refine ⟨.ref g, rfl, .int k, rfl, k, 1, rfl, rfl, _, rfl, g, _, rfl, s31 _ _ (s30 _ _ (s29 _ _ g28)), fun r32 H32 s32 h32 => ?_⟩
      refine ⟨r31, r32, _, _, rfl, rfl, s32 _ _ h31, h32, ?_, fun r33 H33 s33 h33 => ?_⟩
      · have := cvl none (some k)
        have := cvl (some (k + 1)) none
        rw [List.length_append]
        show _ + 1 + _ ≤ 100000
        omega
      have s2833 := (((s29.trans s30).trans s31).trans s32).trans s33
      refine ⟨.ref g, rfl, .int k, rfl, g, _, k, _, rfl, rfl, SqT.of (s2833 _ _ g28), awk, .int (1 + ls), rfl, wk, 1 + ls, rfl, rfl, by show 1 ≤ sizeLine; decide, fun o34 n34 => ?_⟩
      have s34 := same_new (o := .tup [.int (wk - (1 + ls))]) n34
      have h34 : (upd H33 o34 (.tup [.int (wk - (1 + ls))])) o34 = some (.tup [.int (wk - (1 + ls))]) := upd_same
      generalize upd H33 o34 (.tup [.int (wk - (1 + ls))]) = H34 at s34 h34
      refine ⟨r33, o34, _, _, rfl, rfl, s34 _ _ h33, h34, ?_, fun r35 H35 s35 h35 => ?_⟩
      · have := cvl none (some k)
        have := cvl (some (k + 1)) none
        rw [List.length_append, List.length_append]
        show _ + 1 + _ + 1 ≤ 100000
        omega
      have s2835 := (s2833.trans s34).trans s35
      obtain ⟨kn, rfl⟩ := Int.eq_ofNat_of_zero_le a27
      rw [show ((kn : Nat) : Int).toNat = kn from Int.toNat_natCast kn] at hwk
      have kl : kn < ws.length := (List.getElem?_eq_some_iff.mp hwk).1
      have h35 : H35 r35 = some (.tup ((ws.take kn ++ (1 + ls) :: ws.drop (kn + 1) ++ [wk - (1 + ls)]).map V.int)) := by
        rw [h35]
        have c1 : cutV (ws.map V.int) none (some ((kn : Nat) : Int)) = (ws.take kn).map V.int := by
          unfold cutV
          rw [HT.sIx_none, HT.sIx_nat, List.length_map, Nat.min_eq_left (by omega), List.drop_zero, Nat.sub_zero, List.map_take]
        have c2 : cutV (ws.map V.int) (some (((kn : Nat) : Int) + 1)) none = (ws.drop (kn + 1)).map V.int := by
          unfold cutV
          rw [show ((kn : Nat) : Int) + 1 = ((kn + 1 : Nat) : Int) by omega, HT.sIx_none, HT.sIx_nat, List.length_map, Nat.min_eq_left (by omega), ← List.map_drop, ← List.map_take, List.take_of_length_le (by rw [List.length_drop]; omega)]
        rw [c1, c2]
        simp
      -- the tie about
      obtain ⟨tk', etk⟩ : ∃ t, ts[kn]? = some t := ⟨_, List.getElem?_eq_getElem (by omega)⟩
      have hab35 := s2835 _ _ hab28
      have pab35 := ties_tk (Same.tk s2835) pab28
      obtain ⟨zu, ezu, za, rfl, hza⟩ := Paired.at' pab35 (show (ts.map swapT)[kn]? = some (swapT tk') by rw [List.getElem?_map, etk]; rfl)
      have mi35 := mi28.same s2835
      refine ⟨.ref G, rfl, .inl ⟨rfl, _, SqL.of mi35.g⟩, .int n, rfl, .ref wb, rfl, .ref ab, rfl, .int ((kn : Nat) : Int), rfl, ab, _, _, .ref za, rfl, rfl, SqT.of hab35, atI_of (by omega) (by rw [Int.toNat_natCast]; exact ezu), by show 1 ≤ sizeLine; decide, fun o36 n36 => ?_⟩
      have s36 := same_new (o := .tup [.ref za]) n36
      have h36 : (upd H35 o36 (.tup [.ref za])) o36 = some (.tup [.ref za]) := upd_same
      generalize upd H35 o36 (.tup [.ref za]) = H36 at s36 h36
      refine ⟨wb, o36, _, _, rfl, rfl, s36 _ _ (s2835 _ _ (tk28 _ _ hwb)), h36, by show us.length + 1 ≤ 100000; omega, fun r37 H37 s37 h37 => ⟨by show 2 ≤ sizeLine; decide, fun o38 n38 => ?_⟩⟩
      have s38 := same_new (o := .tup [.int n, .ref r37]) n38
      have s3538 := (s36.trans s37).trans s38
      have web38 : WebAt (upd H37 o38 (.tup [.int n, .ref r37])) (.ref o38) n (ts ++ [swapT tk']) := ⟨o38, r37, _, rfl, upd_same, s38 _ _ h37, paired_append (ties_tk (tk28.trans (Same.tk (s2835.trans s3538))) hp) (.cons ⟨za, rfl, s3538 _ _ hza⟩ .nil)⟩
      have h38 := s3538 _ _ h35
      have mi38 := mi35.same s3538
      generalize upd H37 o38 (.tup [.int n, .ref r37]) = H38 at web38 h38 mi38
      clear s3538 s36 s37 s38 h36 h37 mi35 mi28 n36 n38
      refine ⟨.ref r35, rfl, by show 4 ≤ sizeLine; decide, fun o39 n39 => ?_⟩
      have s39 := same_new (o := .tup [.ref o38, .ref r35, .int 1, .int 0]) n39
      have zl : ts.length = ws.length := lw.symm
      have ets : ts = ts.take kn ++ tk' :: ts.drop (kn + 1) := by
        have hk : kn < ts.length := by omega
        have e := List.getElem?_eq_getElem hk
        rw [etk] at e
        rw [Option.some.inj e]
        simp
      have ews : ws = ws.take kn ++ wk :: ws.drop (kn + 1) := by
        have e := List.getElem?_eq_getElem kl
        rw [hwk] at e
        rw [Option.some.inj e]
        simp
      have m39 : MoreR (upd H38 o39 (.tup [.ref o38, .ref r35, .int 1, .int 0])) ts ws (.ref o39) := ⟨o39, .ref o38, r35, n, _, _, 1, 0, rfl, upd_same, web38.tk (Same.tk s39), ok_app ok (by show ts.length + 1 ≤ 60; omega) (fun t ht => by
        rw [List.mem_singleton.mp ht]
        exact swap_ok (ok.ok _ (List.mem_of_getElem? etk))), by omega, by rw [List.length_append]; show ts.length + 1 ≤ 60; omega, s39 _ _ h38, by
        rw [List.length_append, List.length_append, List.length_append, List.length_cons, List.length_take, List.length_drop]
        show _ + 1 = ts.length + 1
        omega, fun x hx => by
        rcases List.mem_append.mp hx with h | h
        · rcases List.mem_append.mp h with h | h
          · exact (w1 x (List.mem_of_mem_take h)).1
          · rcases List.mem_cons.mp h with h | h
            · rw [h]; omega
            · exact (w1 x (List.mem_of_mem_drop h)).1
        · rw [List.mem_singleton.mp h]; omega, fun v mv => by
          have e1 : ts.zip ws = (ts.take kn).zip (ws.take kn) ++ (tk', wk) :: (ts.drop (kn + 1)).zip (ws.drop (kn + 1)) := by
            rw [← zip_set etk zl, ← ews]
          have e2 : (ts ++ [swapT tk']).zip (ws.take kn ++ (1 + ls) :: ws.drop (kn + 1) ++ [wk - (1 + ls)]) = (ts.take kn).zip (ws.take kn) ++ (tk', 1 + ls) :: (ts.drop (kn + 1)).zip (ws.drop (kn + 1)) ++ [(swapT tk', wk - (1 + ls))] := by
            rw [List.zip_append (by rw [List.length_append, List.length_cons, List.length_take, List.length_drop]; omega), zip_set etk zl]
            rfl
          rw [e1] at mv
          rw [e2, show 1 * v + 0 = v by omega]
          exact mv.split⟩
      have mi39 := mi38.same s39
      generalize upd H38 o39 (.tup [.ref o38, .ref r35, .int 1, .int 0]) = H39 at m39 mi39
      refine ⟨G, _, .ref o39, rfl, rfl, mi39.g, ?_, ?_⟩
      · exact small1000 (by omega)
      exact ⟨_, _, _, _, rfl, mi39.push Gn nG0 m39, by rw [List.length_append]; show rows.length + 1 ≤ 7; omega⟩
    rintro σ' H27 ⟨rows', y16, y17, y18, rfl, mi27, lr'⟩
    exact ⟨_, rfl, q G rows' H27 mi27.g nG0 Gn (by omega) mi27.mr mi27.w mi27.k⟩
end
/-! ### k88: the law -/
def WsRow (H : Hp) (r : V) : Prop := ∃ (a : Addr) (wv : V) (gw : Addr) (n : Nat) (ts : List Tie) (ws : List Int), r = .ref a ∧ H a = some (.tup [wv, .ref gw]) ∧ WebAt H wv n ts ∧ WebOk n ts ∧ n ≤ 4 ∧ ts.length ≤ 20 ∧ H gw = some (.tup (ws.map V.int)) ∧ ws.length = ts.length ∧ ∀ x ∈ ws, 1 ≤ x ∧ x ≤ 10 ^ 9
theorem WsRow.tk {H H' : Hp} (k : Tk H H') {r : V} (h : WsRow H r) : WsRow H' r := by
  obtain ⟨a, wv, gw, n, ts, ws, e, h1, h2, h3, h4, h5, h6, h7, h8⟩ := h
  exact ⟨a, wv, gw, n, ts, ws, e, k _ _ h1, h2.tk k, h3, h4, h5, k _ _ h6, h7, h8⟩
theorem cost_le {c : Int → Bool} {B : Int} (hB : 0 ≤ B) : ∀ {Z : List TZ}, (∀ z ∈ Z, z.2 ≤ B) → costZ Z c ≤ B * Z.length
  | [], _ => by rw [costZ_nil]; simp
  | z :: Z, h => by
    have a := h z List.mem_cons_self
    have b := cost_le hB (c := c) (Z := Z) fun x hx => h x (List.mem_cons_of_mem _ hx)
    rw [costZ_cons, List.length_cons]
    have e : B * ((Z.length + 1 : Nat) : Int) = B * Z.length + B := by
      rw [Int.natCast_add, Int.mul_add]
      simp
    rw [e]
    split <;> omega
theorem MinZ.few {ts : List Tie} {ws : List Int} {v : Int} (h : MinZ (ts.zip ws) v) (w : ∀ x ∈ ws, x ≤ 10 ^ 9) (l : ts.length ≤ 20) : v < 2 ^ 64 := by
  obtain ⟨c, e⟩ := h.ex
  have := cost_le (c := c) (B := 10 ^ 9) (by decide) (Z := ts.zip ws) fun z hz => w z.2 (List.of_mem_zip (show (z.1, z.2) ∈ ts.zip ws from hz)).2
  have l2 : (ts.zip ws).length ≤ 20 := by rw [List.length_zip]; omega
  rw [← e] at this
  have : v ≤ 10 ^ 9 * 20 := by
    have h2 : (10 : Int) ^ 9 * ((ts.zip ws).length : Int) ≤ 10 ^ 9 * 20 := Int.mul_le_mul_of_nonneg_left (by omega) (by decide)
    omega
  omega
section
variable {P : Program} {w : World} {K : PySem.W.Frag} {mg : Str → Option Value} {base : Heap}
set_option maxHeartbeats 4000000 in
theorem ok_law {f : Addr} {fd : FuncData} {Ps : List Addr} (F : Fun K "law" "law" s_law f fd) (M : Free mg) (D_l_deck : Df P w K mg base 1 "_law_deck" ["_law_script"] (spDeck K)) (D_l_take : Df P w K mg base 1 "_law_take" ["_law_deck_here", "_law_many"] spDraw) (D_l_ties : Df P w K mg base 2 "_law_ties" ["_law_deck_here", "_law_many", "_law_most"] spLTies) (D_l_weighed : Df P w K mg base 2 "_law_weighed" ["_law_deck_here", "_law_ties_here"] spWeighed) (D_l_least : Df P w K mg base 56 "_law_least" ["_law_web", "_law_weights"] (spLst88 Ps)) (D_l_both_right : Df P w K mg base 57 "_law_both_right" ["_law_deck_here", "_law_one", "_law_other", "_law_mine", "_law_theirs", "_law_least_here"] (spBothR Ps)) (D_l_more : Df P w K mg base 3 "_law_more" ["_law_deck_here", "_law_web", "_law_weights"] spMore) (D_paper_of : Df P w K mg base 13 "paper_of" ["web", "weights"] (spPaperOf Ps)) (D_shown_by : Df P w K mg base 55 "shown_by" ["web", "weights", "thing"] (spShownBy Ps 16)) : FnOk P w K mg base CX0 58 f fd ["_law_script"] (spLaw K Ps) := by
  obtain ⟨f_l_deck, fd_l_deck, G_l_deck, g_l_deck, k_l_deck, b_l_deck⟩ := D_l_deck
  obtain ⟨f_l_take, fd_l_take, G_l_take, g_l_take, k_l_take, b_l_take⟩ := D_l_take
  obtain ⟨f_l_ties, fd_l_ties, G_l_ties, g_l_ties, k_l_ties, b_l_ties⟩ := D_l_ties
  obtain ⟨f_l_weighed, fd_l_weighed, G_l_weighed, g_l_weighed, k_l_weighed, b_l_weighed⟩ := D_l_weighed
  obtain ⟨f_l_least, fd_l_least, G_l_least, g_l_least, k_l_least, b_l_least⟩ := D_l_least
  obtain ⟨f_l_both_right, fd_l_both_right, G_l_both_right, g_l_both_right, k_l_both_right, b_l_both_right⟩ := D_l_both_right
  obtain ⟨f_l_more, fd_l_more, G_l_more, g_l_more, k_l_more, b_l_more⟩ := D_l_more
  obtain ⟨f_paper_of, fd_paper_of, G_paper_of, g_paper_of, k_paper_of, b_paper_of⟩ := D_paper_of
  obtain ⟨f_shown_by, fd_shown_by, G_shown_by, g_shown_by, k_shown_by, b_shown_by⟩ := D_shown_by
  refine F.ok sc_law (fun vs H Q E h => ?_) (fun cdv A outer s H vs Q E hr h => ?_)
  · obtain ⟨sc, ns, rfl, _⟩ := h
    rfl
  · obtain ⟨sc, ns, rfl, hS, hlen, hT, q⟩ := h
    refine ⟨_, (pss_cons (ps_set (i := 1) sc_law.nd rfl (.inr rfl) (pe_call G_l_deck (hr.mono (by decide)) (by rfl) g_l_deck k_l_deck b_l_deck .nil pass0 (pa_cons (pv 0) pa_nil)))
      (pss_cons (ps_for PassesOwn.never rfl (pi_range1 (by rfl) M.range (pa_cons pe_int pa_nil)) (pg_name (i := 2) sc_law.nd rfl (.inl rfl))
        (pss_cons (ps_set (i := 3) sc_law.nd rfl (.inl rfl) (pe_lst pa_nil))
        (pss_cons (ps_for PassesOwn.never rfl (pi_range1 (by rfl) M.range (pa_cons pe_int pa_nil)) (pg_name (i := 4) sc_law.nd rfl (.inl rfl))
          (pss_cons (ps_set (i := 5) sc_law.nd rfl (.inl rfl) (pe_op op_add pe_int (pe_ix ix_list (pe_lst (pa_cons (pe_call G_l_take (hr.mono (by decide)) (by rfl) g_l_take k_l_take b_l_take .nil pass0 (pa_cons (pv 1) (pa_cons pe_int pa_nil))) (pa_cons (pe_call G_l_take (hr.mono (by decide)) (by rfl) g_l_take k_l_take b_l_take .nil pass0 (pa_cons (pv 1) (pa_cons pe_int pa_nil))) pa_nil))) (pe_callTy call_int1 (by rfl) M.int (by decide +kernel) (pa_cons (pe_cmpR op_eq (pe_call G_l_take (hr.mono (by decide)) (by rfl) g_l_take k_l_take b_l_take .nil pass0 (pa_cons (pv 1) (pa_cons pe_int pa_nil))) pe_int (nomark _)) pa_nil)) (fun _ _ => rfl))))
          (pss_cons (ps_set (i := 6) sc_law.nd rfl (.inl rfl) (pe_call G_l_ties (hr.mono (by decide)) (by rfl) g_l_ties k_l_ties b_l_ties .nil pass0 (pa_cons (pv 1) (pa_cons (pv 5) (pa_cons (pe_call G_l_take (hr.mono (by decide)) (by rfl) g_l_take k_l_take b_l_take .nil pass0 (pa_cons (pv 1) (pa_cons pe_int pa_nil))) pa_nil)))))
          (pss_one (ps_expr (pe_bm PySem.F.plainAttrs_list PySem.F.slot_list_append PySem.F.type_list_append mt_append (pv 3) (pa_cons (pe_tup (pa_cons (pe_tup (pa_cons (pv 5) (pa_cons (pv 6) pa_nil))) (pa_cons (pe_call G_l_weighed (hr.mono (by decide)) (by rfl) g_l_weighed k_l_weighed b_l_weighed .nil pass0 (pa_cons (pv 1) (pa_cons (pv 6) pa_nil))) pa_nil))) pa_nil)))))))
        (pss_cons (ps_asg (pv 3) (pg_unl rfl (pgs_cons (pg_tup rfl (pgs_cons (pg_name (i := 7) sc_law.nd rfl (.inl rfl)) (pgs_cons (pg_name (i := 8) sc_law.nd rfl (.inl rfl)) pgs_nil))) (pgs_cons (pg_tup rfl (pgs_cons (pg_name (i := 9) sc_law.nd rfl (.inl rfl)) (pgs_cons (pg_name (i := 10) sc_law.nd rfl (.inl rfl)) pgs_nil))) pgs_nil))))
        (pss_cons (ps_set (i := 11) sc_law.nd rfl (.inl rfl) (pe_lst (pa_cons (pe_call G_l_least (hr.mono (by decide)) (by rfl) g_l_least k_l_least b_l_least .nil pass0 (pa_cons (pv 7) (pa_cons (pv 8) pa_nil))) (pa_cons (pe_call G_l_least (hr.mono (by decide)) (by rfl) g_l_least k_l_least b_l_least .nil pass0 (pa_cons (pv 9) (pa_cons (pv 10) pa_nil))) pa_nil))))
        (pss_cons (ps_if (PW.pt (pw_or (pt_cmpR op_in_seq (pe_un un_neg pe_int) (pv 11) rfl) (pw_or1 (pt_not (pt_val (pe_call G_l_both_right (hr.mono (by decide)) (by rfl) g_l_both_right k_l_both_right b_l_both_right .nil pass0 (pa_cons (pv 1) (pa_cons (pv 7) (pa_cons (pv 9) (pa_cons (pv 8) (pa_cons (pv 10) (pa_cons (pv 11) pa_nil))))))))))))
          (pss_one (ps_ret pe_bl))
          pss_nil)
        (pss_cons (ps_for PassesOwn.never rfl (pi_list (pe_call G_l_more (hr.mono (by decide)) (by rfl) g_l_more k_l_more b_l_more .nil pass0 (pa_cons (pv 1) (pa_cons (pv 7) (pa_cons (pv 8) pa_nil))))) (pg_tup rfl (pgs_cons (pg_name (i := 12) sc_law.nd rfl (.inl rfl)) (pgs_cons (pg_name (i := 13) sc_law.nd rfl (.inl rfl)) (pgs_cons (pg_name (i := 14) sc_law.nd rfl (.inl rfl)) (pgs_cons (pg_name (i := 15) sc_law.nd rfl (.inl rfl)) pgs_nil)))))
          (pss_one (ps_if (pt_cmpR op_ne (pe_call G_l_least (hr.mono (by decide)) (by rfl) g_l_least k_l_least b_l_least .nil pass0 (pa_cons (pv 12) (pa_cons (pv 13) pa_nil))) (pe_op op_add (pe_op op_mul (pv 14) (pe_ix ix_list (pv 11) pe_int (fun _ _ => rfl))) (pv 15)) (nomark _))
            (pss_one (ps_ret pe_bl))
            pss_nil)))
        (pss_cons (ps_set (i := 16) sc_law.nd rfl (.inl rfl) (pe_callTy call_tuple_of (by rfl) M.tuple (by decide +kernel) (pa_cons (pe_lc (own := [("_law_weight", 17)]) (g := (gName 17)) (tt := tYes) rfl sc_law.nd (pi_tup (pv 8)) (blkOk_by (N := N_law) (sc := defScope s_law) (own := [("_law_weight", 17)]) (by decide +kernel)) (fun _ _ _ _ _ => (pg_name (i := 17) sc_law.nd rfl (.inl rfl))) (fun _ _ _ _ _ => pts_nil) (fun _ _ _ _ _ => (pe_op op_add (pv 17) (pe_call G_l_take (hr.mono (by decide)) (by rfl) g_l_take k_l_take b_l_take .nil pass0 (pa_cons (pv 1) (pa_cons pe_int pa_nil)))))) pa_nil)))
        (pss_one (ps_if (PW.pt (pw_or (pt_cmpR op_ne (pe_call G_shown_by (hr.mono (by decide)) (by rfl) g_shown_by k_shown_by b_shown_by .nil pass0 (pa_cons (pv 7) (pa_cons (pv 16) (pa_cons (pe_call G_paper_of (hr.mono (by decide)) (by rfl) g_paper_of k_paper_of b_paper_of .nil pass0 (pa_cons (pv 7) (pa_cons (pv 8) pa_nil))) pa_nil)))) (pe_ix ix_list (pv 11) pe_int (fun _ _ => rfl)) (nomark _)) (pw_or1 (pt_cmpR op_lt (pe_call G_l_least (hr.mono (by decide)) (by rfl) g_l_least k_l_least b_l_least .nil pass0 (pa_cons (pv 7) (pa_cons (pv 16) pa_nil))) (pe_ix ix_list (pv 11) pe_int (fun _ _ => rfl)) (nomark _)))))
          (pss_one (ps_ret pe_bl))
          pss_nil))))))))))
      (pss_one (ps_ret pe_bl)))), ?_⟩
    refine ⟨.ref sc, rfl, sc, ns, rfl, hS, hlen, fun d c H1 s1 nd nc D1 => ?_⟩
    have T1 := hT.same s1
    clear hS hT s1 nd nc
    refine ⟨2, rfl, by decide, by decide, ?_⟩
    refine for_range (lo := 0) (n := 2) (fun i σ' H' => ∃ y2 y3 y4 y5 y6 y7 y8 y9 y10 y11 y12 y13 y14 y15 y16 : Option V, σ' = [some (.ref sc), some (.ref d), y2, y3, y4, y5, y6, y7, y8, y9, y10, y11, y12, y13, y14, y15, y16, none] ∧ Deck H' d c ∧ Tabs Ps H') ⟨none, none, none, none, none, none, none, none, none, none, none, none, none, none, none, rfl, D1, T1⟩ ?_ (fun σ' H' h => by
      obtain ⟨_, _, _, _, _, _, _, _, _, _, _, _, _, _, _, rfl, _⟩ := h
      exact q _)
    clear D1 T1
    rintro i σ' H1 hi ⟨y2, y3, y4, y5, y6, y7, y8, y9, y10, y11, y12, y13, y14, y15, y16, rfl, D1, T1⟩
    refine ⟨Nat.zero_le _, fun L nL => ?_⟩
    have Ln := D1.ned nL
    have D2 := D1.new (o := .lst []) nL
    have T2 := T1.same (same_new (o := .lst []) nL)
    have hL2 : (upd H1 L (.lst [])) L = some (.lst []) := upd_same
    generalize upd H1 L (.lst []) = H2 at D2 T2 hL2
    clear D1 T1 nL
    refine ⟨2, rfl, by decide, by decide, ?_⟩
    refine for_range (lo := 0) (n := 2) (fun j σ' H' => ∃ (y4 y5 y6 : Option V) (rs : List V), σ' = [some (.ref sc), some (.ref d), some (.int (0 + (i : Nat))), some (.ref L), y4, y5, y6, y7, y8, y9, y10, y11, y12, y13, y14, y15, y16, none] ∧ Deck H' d c ∧ Tabs Ps H' ∧ H' L = some (.lst rs) ∧ rs.length = j ∧ ∀ r ∈ rs, WsRow H' r) ⟨_, _, _, [], rfl, D2, T2, hL2, rfl, fun r hr => by simp at hr⟩ ?_ ?_
    · clear D2 T2 hL2
      rintro j σ' H3 hj ⟨y4, y5, y6, rs, rfl, D3, T3, hL3, lr, hrs⟩
      refine ⟨.ref d, rfl, d, c, 3, rfl, D3, by decide, by decide, fun x1 H4 a4 b4 D4 K4 => ?_⟩
      refine ⟨.ref d, rfl, d, c, 4, rfl, D4, by decide, by decide, fun x2 H5 a5 b5 D5 K5 => ⟨by show 2 ≤ sizeLine; decide, fun l6 n6 => ?_⟩⟩
      have hL5 := K5 _ _ Ln.1 Ln.2 (K4 _ _ Ln.1 Ln.2 hL3)
      have tk5 := (K4.tk D3).trans (K5.tk D4)
      have T5 := (T3.kp K4 D3).kp K5 D4
      have s6 := same_new (o := .lst [.int x1, .int x2]) n6
      have h6 : (upd H5 l6 (.lst [.int x1, .int x2])) l6 = some (.lst [.int x1, .int x2]) := upd_same
      have D6 := D5.same s6
      have T6 := T5.same s6
      have hL6 := s6 _ _ hL5
      have l6n := D5.ned n6
      have tk6 := tk5.trans (Same.tk s6)
      generalize upd H5 l6 (.lst [.int x1, .int x2]) = H6 at h6 D6 T6 hL6 tk6
      refine ⟨.ref d, rfl, d, c, 4, rfl, D6, by decide, by decide, fun x7 H7 a7 b7 D7 K7 => ?_⟩
      have h7 := K7 _ _ l6n.1 l6n.2 h6
      obtain ⟨y, ey, y0, y3'⟩ : ∃ y, atI [V.int x1, V.int x2] (if decide (V.int x7 = V.int 1) = true then 1 else 0) = some (.int y) ∧ 0 ≤ y ∧ y ≤ 3 := by
        cases decide (V.int x7 = V.int 1) with
        | true => exact ⟨x2, rfl, a5, by omega⟩
        | false => exact ⟨x1, rfl, a4, by omega⟩
      refine ⟨rfl, .inr ⟨_, rfl, l6, _, _, .int y, rfl, rfl, SqL.of h7, ey, 1, y, rfl, rfl, ?_⟩⟩
      show (tSeq _ _ : L2.TS) _ [some (.ref sc), some (.ref d), some (.int (0 + (i : Nat))), some (.ref L), some (.int (0 + (j : Nat))), some (.int (1 + y)), y6, y7, y8, y9, y10, y11, y12, y13, y14, y15, y16, none] H7
      have T7 := T6.kp K7 D6
      have hL7 := K7 _ _ Ln.1 Ln.2 hL6
      have tk7 := tk6.trans (K7.tk D6)
      obtain ⟨n, en, n1, n4⟩ : ∃ n : Nat, 1 + y = n ∧ 1 ≤ n ∧ n ≤ 4 := ⟨(1 + y).toNat, by omega, by omega, by omega⟩
      rw [en]
      clear D3 T3 hL3 K4 K5 hL5 tk5 T5 s6 h6 D6 T6 hL6 tk6 K7 h7 ey n6 D4 D5
      refine ⟨.ref d, rfl, .int n, rfl, .ref d, rfl, d, c, 11, rfl, D7, by decide, by decide, fun m8 H8 a8 b8 D8 K8 => ?_⟩
      refine ⟨d, c, n, m8, rfl, D8, by omega, by omega, a8, by omega, fun tr us ts H9 htr hp ok lm D9 K9 => ?_⟩
      have hL9 := K9 _ _ Ln.1 Ln.2 (K8 _ _ Ln.1 Ln.2 hL7)
      have tk9 := tk7.trans ((K8.tk D7).trans (K9.tk D8))
      have T9 := (T7.kp K8 D7).kp K9 D8
      clear T7 hL7 tk7 K8 K9 D7 D8
      refine ⟨.ref L, rfl, .inl ⟨rfl, _, SqL.of hL9⟩, .int n, rfl, .ref tr, rfl, by show 2 ≤ sizeLine; decide, fun o10 n10 => ?_⟩
      have s10 := same_new (o := .tup [.int n, .ref tr]) n10
      have web10 : WebAt (upd H9 o10 (.tup [.int n, .ref tr])) (.ref o10) n ts := ⟨o10, tr, us, rfl, upd_same, s10 _ _ htr, ties_tk (Same.tk s10) hp⟩
      have htr10 := s10 _ _ htr
      have D10 := D9.same s10
      have T10 := T9.same s10
      have hL10 := s10 _ _ hL9
      have tk10 := tk9.trans (Same.tk s10)
      have lus : us.length = ts.length := Paired.length hp
      generalize upd H9 o10 (.tup [.int n, .ref tr]) = H10 at web10 htr10 D10 T10 hL10 tk10
      refine ⟨.ref d, rfl, .ref tr, rfl, d, c, tr, us, rfl, D10, htr10, by omega, fun gw ws H11 hgw lw w1 D11 K11 => ⟨by show 2 ≤ sizeLine; decide, fun o12 n12 => ?_⟩⟩
      have hL11 := K11 _ _ Ln.1 Ln.2 hL10
      have s12 := same_new (o := .tup [.ref o10, .ref gw]) n12
      have hL12 := s12 _ _ hL11
      have D12 := D11.same s12
      have T12 := (T10.kp K11 D10).same s12
      have tk12 := (tk10.trans (K11.tk D10)).trans (Same.tk s12)
      have row : WsRow (upd H11 o12 (.tup [.ref o10, .ref gw])) (.ref o12) := ⟨o12, .ref o10, gw, n, ts, ws, rfl, upd_same, (web10.tk (K11.tk D10)).tk (Same.tk s12), ok, n4, by omega, s12 _ _ hgw, by omega, w1⟩
      generalize upd H11 o12 (.tup [.ref o10, .ref gw]) = H12 at hL12 D12 T12 tk12 row
      refine ⟨L, _, .ref o12, rfl, rfl, hL12, small1000 (by omega), ?_⟩
      have tkL := tk_lst (ys := rs ++ [.ref o12]) hL12
      refine ⟨_, _, _, rs ++ [.ref o12], rfl, D12.mut Ln.1 Ln.2, ?_, upd_same, by rw [List.length_append, lr]; rfl, fun r hr => ?_⟩
      · intro P hP
        obtain ⟨ps, e, t⟩ := T12 P hP
        exact ⟨ps, by rw [upd_ne (fun z => by rw [z, hL12] at e; cases e)]; exact e, t⟩
      · rcases List.mem_append.mp hr with h | h
        · exact ((hrs r h).tk tk12).tk tkL
        · rw [List.mem_singleton.mp h]
          exact row.tk tkL
    clear D2 T2 hL2
    rintro σ' H3 ⟨y4, y5, y6, rs, rfl, D3, T3, hL3, lr, hrs⟩
    obtain ⟨ra, rb, rfl⟩ : ∃ ra rb, rs = [ra, rb] := by
      match rs, lr with
      | [ra, rb], _ => exact ⟨ra, rb, rfl⟩
    obtain ⟨a1, v1, g1, n1, ts, ws, rfl, ha1, hW, ok, n4, l20, hg, lw, w1⟩ := hrs ra (by simp)
    obtain ⟨a2, v2, g2, n2, us, xs, rfl, ha2, hU, ok2, n4b, l20b, hx, lx, x1⟩ := hrs rb (by simp)
    refine ⟨.ref L, rfl, L, _, rfl, SqL.of hL3, rfl, _, _, rfl, ⟨a1, _, rfl, SqT.of ha1, rfl, _, _, rfl, _, _, rfl, rfl, ?_⟩⟩
    refine ⟨_, _, rfl, a2, _, rfl, SqT.of ha2, rfl, _, _, rfl, _, _, rfl, rfl, rfl, ?_⟩
    have w1' : ∀ x ∈ ws, 1 ≤ x := fun x hx => (w1 x hx).1
    have x1' : ∀ x ∈ xs, 1 ≤ x := fun x hx => (x1 x hx).1
    -- the least of both
    refine ⟨v1, rfl, .ref g1, rfl, v1, g1, n1, ts, ws, rfl, hW, ok, by omega, by omega, hg, lw, w1', T3, fun v H4 k4 mv v0 => ?_⟩
    have kd4 : Kd Ps d c H3 H4 := k4.kd
    have tk4 := k4.tk T3
    have T4 : Tabs Ps H4 := k4.tab
    have D4 := k4.deck T3 D3
    refine ⟨v2, rfl, .ref g2, rfl, v2, g2, n2, us, xs, rfl, hU.tk tk4, ok2, by omega, by omega, tk4 _ _ hx, lx, x1', T4, fun u H5 k5 mu u0 => ⟨by show 2 ≤ sizeLine; decide, fun M nM => ?_⟩⟩
    have T5 : Tabs Ps H5 := k5.tab
    have D5 := k5.deck T4 D4
    have s6 := same_new (o := .lst [.int v, .int u]) nM
    have hM : (upd H5 M (.lst [.int v, .int u])) M = some (.lst [.int v, .int u]) := upd_same
    have Mn := D5.ned nM
    have kd6 : Kd Ps d c H3 (upd H5 M (.lst [.int v, .int u])) := (kd4.trans k5.kd).trans (Same.kd s6)
    have D6 := D5.same s6
    have T6 := T5.same s6
    generalize upd H5 M (.lst [.int v, .int u]) = H6 at hM kd6 D6 T6
    have tk6 := kd6.tk D3 T3
    have hW := hW.tk tk6
    have hU := hU.tk tk6
    have hg := tk6 _ _ hg
    have hx := tk6 _ _ hx
    clear kd4 tk4 T4 D4 k5 T5 D5 s6 kd6 tk6 D3 T3 hL3 hrs ha1 ha2 k4 nM
    refine ⟨1, rfl, .ref M, rfl, M, _, rfl, .inl (SqL.of hM), rfl, rfl, _, rfl, ?_⟩
    have e0 : inV (.int (-1)) [V.int v, V.int u] = false := by
      have z : inV (.int (-1)) ([v, u].map V.int) = [v, u].contains (-1) := in_ints (-1) [v, u]
      have z2 : [v, u].contains (-1) = false := by
        rw [Bool.eq_false_iff]
        intro z
        have := List.contains_iff_mem.mp z
        simp at this
        omega
      exact z.trans z2
    rw [e0]
    refine ⟨.ref d, rfl, v1, rfl, v2, rfl, .ref g1, rfl, .ref g2, rfl, .ref M, rfl, d, c, v1, v2, g1, g2, M, n1, n2, ts, us, ws, xs, v, u, rfl, D6, hW, ok, hU, ok2, n4, n4b, l20, l20b, hg, lw, hx, lx, w1', x1', hM, Mn, mv, mu, T6, fun H7 D7 T7 kd7 => ⟨_, rfl, ?_⟩⟩
    have tk7 := kd7.tk D6 T6
    have hM7 := kd7.lst T6 Mn hM
    have hW7 := hW.tk tk7
    have hg7 := tk7 _ _ hg
    clear hW hg hU hx tk7 kd7 hM D6 T6
    -- webs made of one
    refine ⟨.ref d, rfl, v1, rfl, .ref g1, rfl, d, c, v1, g1, n1, ts, ws, rfl, D7, hW7, ok, n4, l20, hg7, lw, w1, fun R rows H8 hR _ Rn lrw mr D8 K8 => ?_⟩
    have hM8 := K8 _ _ Mn.1 Mn.2 hM7
    have tk8 := K8.tk D7
    have T8 := T7.kp K8 D7
    have hW8 := hW7.tk tk8
    have hg8 := tk8 _ _ hg7
    clear hM7 tk8 hW7 hg7 K8 D7 T7
    refine ⟨R, rfl, ⟨_, SqL.of hR⟩, ?_⟩
    refine for_list (xs := rows) (fun j σ' H' => ∃ y12 y13 y14 y15 : Option V, σ' = [some (.ref sc), some (.ref d), some (.int (0 + (i : Nat))), some (.ref L), y4, y5, y6, some v1, some (.ref g1), some v2, some (.ref g2), some (.ref M), y12, y13, y14, y15, y16, none] ∧ Deck H' d c ∧ Tabs Ps H' ∧ Kd Ps d c H8 H' ∧ H' R = some (.lst rows)) ⟨_, _, _, _, rfl, D8, T8, Kd.refl, hR⟩ (fun j σ' H' _ h => by
      obtain ⟨_, _, _, _, _, _, _, _, h⟩ := h
      exact SqL.of h) ?_ ?_
    · rintro j x σ' H9 ex ⟨y12, y13, y14, y15, rfl, D9, T9, kd9, hR9⟩
      have tk9 := kd9.tk D8 T8
      obtain ⟨a, wv, gw, n', ts', ws', t, m, rfl, ha, hwv, okw, n8, l60, hgw, lgw, wg1, mz⟩ := (mr x (List.mem_of_getElem? ex)).tk tk9
      refine ⟨a, _, rfl, SqT.of ha, rfl, _, _, rfl, _, _, rfl, _, _, rfl, _, _, rfl, rfl, ?_⟩
      refine ⟨wv, rfl, .ref gw, rfl, wv, gw, n', ts', ws', rfl, hwv, okw, n8, l60, hgw, lgw, wg1, T9, fun z H10 k10 mz10 _ => ?_⟩
      have ez : z = t * v + m := mz10.one (mz v mv)
      have kd10 : Kd Ps d c H8 H10 := kd9.trans k10.kd
      have hM10 := kd10.lst T8 Mn hM8
      refine ⟨.int t, rfl, .ref M, rfl, M, _, 0, .int v, rfl, rfl, SqL.of hM10, rfl, t, v, rfl, rfl, .inr ⟨by omega, mv.few (fun x hx => (w1 x hx).2) l20⟩, .int m, rfl, _, m, rfl, rfl, rfl, _, rfl, ?_⟩
      rw [ez, decide_eq_true rfl]
      exact ⟨_, _, _, _, rfl, k10.deck T9 D9, k10.tab, kd10, k10.lst T9 hR9⟩
    clear mr hR
    rintro σ' H9 ⟨y12, y13, y14, y15, rfl, D9, T9, kd9, _⟩
    have tk9 := kd9.tk D8 T8
    have hM9 := kd9.lst T8 Mn hM8
    have hW9 := hW8.tk tk9
    have hg9 := tk9 _ _ hg8
    clear kd9 tk9 hM8 hW8 hg8 D8 T8
    -- heavier
    refine ⟨.ref g1, rfl, g1, rfl, ⟨_, SqT.of hg9⟩, fun Z nZ => ?_⟩
    have Zn := D9.ned nZ
    refine lc_tup (xs := ws.map V.int) (fun j H' => ∃ hs : List Int, H' Z = some (.lst (hs.map V.int)) ∧ Paired (fun a b => a ≤ b) (ws.take j) hs ∧ Deck H' d c ∧ Kp d c H9 H') ⟨[], upd_same, .nil, D9.new nZ, Kp.new nZ⟩ (fun j H' _ h => by
      obtain ⟨hs, _, _, _, k⟩ := h
      exact SqT.of (k.tk D9 _ _ hg9)) ?_ ?_
    · rintro j x H10 ex ⟨hs, hZ, ph, D10, K10⟩
      rw [List.getElem?_map] at ex
      obtain ⟨w, hw, rfl⟩ := Option.map_eq_some_iff.mp ex
      have jl := (List.getElem?_eq_some_iff.mp hw).1
      have lh : hs.length = j := by have := Paired.length ph; rw [List.length_take] at this; omega
      refine ⟨rfl, .int w, rfl, .ref d, rfl, d, c, 4, rfl, D10, by decide, by decide, fun z H11 a11 b11 D11 K11 => ⟨w, z, rfl, rfl, _, K11 _ _ Zn.1 Zn.2 hZ, by rw [List.length_map]; exact small1000 (by omega), hs ++ [w + z], by rw [upd_same, List.map_append]; rfl, ?_, D11.mut Zn.1 Zn.2, (K10.trans K11).mut nZ⟩⟩
      rw [List.take_add_one, hw]
      exact Paired.snoc ph (by omega)
    rintro H10 ⟨hs, hZ, ph, D10, K10⟩
    rw [List.length_map, List.take_length] at ph
    have lh : hs.length = ws.length := (Paired.length ph).symm
    refine ⟨Z, _, rfl, .inl ⟨SqL.of hZ, fun hv nhv => ?_⟩⟩
    have s11 := same_new (o := .tup (hs.map V.int)) nhv
    have hhv : (upd H10 hv (.tup (hs.map V.int))) hv = some (.tup (hs.map V.int)) := upd_same
    have D11 := D10.same s11
    have kd11 : Kd Ps d c H9 (upd H10 hv (.tup (hs.map V.int))) := K10.kd.trans (Same.kd s11)
    have T11 := (T9.kp K10 D9).same s11
    generalize upd H10 hv (.tup (hs.map V.int)) = H11 at hhv D11 kd11 T11
    have tk11 := kd11.tk D9 T9
    have hM11 := kd11.lst T9 Mn hM9
    have hW11 := hW9.tk tk11
    have hg11 := tk11 _ _ hg9
    clear hZ K10 s11 nhv nZ tk11 kd11 hM9 hW9 hg9 D9 T9 D10
    have h8 : ∀ P ∈ partsTo ts n1 n1, oddF ts P = true → P.length ≤ 8 := fun P hP _ => by have := part_few hP; omega
    have hge : ∀ (i : Nat) (a b : Int), ws[i]? = some a → hs[i]? = some b → a ≤ b := fun i a b ha hb => by
      obtain ⟨b', eb, r⟩ := Paired.at ph ha
      rw [hb] at eb
      cases eb
      exact r
    have hs1 : ∀ x ∈ hs, 1 ≤ x := fun x hx' => by
      obtain ⟨i, hi⟩ := List.getElem?_of_mem hx'
      have il := (List.getElem?_eq_some_iff.mp hi).1
      have := hge i _ x (List.getElem?_eq_getElem (by omega)) hi
      have := w1' _ (List.getElem_mem (show i < ws.length by omega))
      omega
    refine ⟨v1, rfl, .ref hv, rfl, v1, rfl, .ref g1, rfl, v1, .ref g1, n1, ts, gW ws, rfl, hW11, ok, h8, wts_of hg11 lw, T11, fun pv H12 k12 hpv => ?_⟩
    have T12 : Tabs Ps H12 := k12.tab
    have D12 := k12.deck T11 D11
    have tk12 := k12.tk T11
    obtain ⟨pap, W, lW, shw⟩ := paper_shows (lim := limW (gW hs) ts.length) ok (by omega) (gW_ge w1' lw) h8 hpv (limW_len _ _) (fun e he => by
      rw [lim_at e he]
      obtain ⟨e0', e1'⟩ := mem_rng.mp he
      have q1 : gW ws e ≤ gW hs e := by
        have l1 : e.toNat < ws.length := by omega
        unfold gW
        rw [List.getD_eq_getElem?_getD, List.getD_eq_getElem?_getD, List.getElem?_eq_getElem l1, List.getElem?_eq_getElem (by omega)]
        exact hge e.toNat _ _ (List.getElem?_eq_getElem l1) (List.getElem?_eq_getElem (by omega))
      omega)
    have eW : W = v := ((minz_of lw).mp lW).one mv
    have hhv12 := tk12 _ _ hhv
    refine ⟨v1, .ref hv, pv, n1, ts, gW hs, rfl, hW11.tk tk12, ok, by omega, wts_of hhv12 (by omega), pap, T12, fun H13 k13 => ?_⟩
    rw [shw]
    have T13 : Tabs Ps H13 := k13.tab
    have D13 := k13.deck T12 D12
    have hM13 := k13.lst T12 (k12.lst T11 hM11)
    refine ⟨.ref M, rfl, M, _, 0, .int v, rfl, rfl, SqL.of hM13, rfl, rfl, _, rfl, ?_⟩
    rw [eW]
    show (if (!decide (V.int v = V.int v)) = true then _ else _)
    rw [decide_eq_true rfl]
    have tk13 := tk12.trans (k13.tk T12)
    refine ⟨v1, rfl, .ref hv, rfl, v1, hv, n1, ts, hs, rfl, hW11.tk tk13, ok, by omega, by omega, tk13 _ _ hhv, by omega, hs1, T13, fun z H14 k14 mz _ => ?_⟩
    have hM14 := k14.lst T13 hM13
    have le := mv.mono mz lw ph
    refine ⟨.ref M, rfl, M, _, 0, .int v, rfl, rfl, SqL.of hM14, rfl, z, v, rfl, rfl, _, rfl, ?_⟩
    rw [decide_eq_false (show ¬ z < v by omega)]
    exact ⟨_, _, _, _, _, _, _, _, _, _, _, _, _, _, _, rfl, k14.deck T13 D13, k14.tab⟩
end
/-! ### k88: one def, two promises; a def with defaults called with all it takes -/
theorem Df.imp {P : Program} {w : World} {K : PySem.W.Frag} {mg : Str → Option Value} {base : Heap} {k : Nat} {x : Str} {ps : List Str} {sp sp' : Sp} (D : Df P w K mg base k x ps sp) (h : ∀ vs H Q E, sp' vs H Q E → sp vs H Q E) : Df P w K mg base k x ps sp' := by
  obtain ⟨f, fd, G, g, kp, b⟩ := D
  exact ⟨f, fd, G.imp h, g, kp, b⟩
theorem DfD.df {P : Program} {w : World} {K : PySem.W.Frag} {mg : Str → Option Value} {base : Heap} {k : Nat} {x : Str} {ps : List Str} {sp : Sp} {dvs : List V} (D : DfD P w K mg base k x ps sp dvs) : Df P w K mg base k x ps sp := by
  obtain ⟨f, fd, G, g, kp, b, _⟩ := D
  exact ⟨f, fd, G, g, kp, b⟩
def spBreaks88 : Sp := fun vs H Q E => spBreaksD vs H Q E ∨ spBreaks vs H Q E
theorem ok_breaks88 {P : Program} {w : World} {K : PySem.W.Frag} {mg : Str → Option Value} {base : Heap} {f : Addr} {fd : FuncData} (F : Fun K "breaks" "breaks" s_breaks f fd) : FnOk P w K mg base CX0 1 f fd ["sides", "tie"] spBreaks88 :=
  ⟨fun vs H Q E h => h.elim ((ok_breaks (P := P) (w := w) (mg := mg) (base := base) F).len vs H Q E) ((ok_breaks_t (P := P) (w := w) (mg := mg) (base := base) F).len vs H Q E), fun A outer s H args us vs Q E hr he hb hv h => h.elim (fun h => (ok_breaks (P := P) (w := w) (mg := mg) (base := base) F).run A outer s H args us vs Q E hr he hb hv h) (fun h => (ok_breaks_t (P := P) (w := w) (mg := mg) (base := base) F).run A outer s H args us vs Q E hr he hb hv h)⟩
/-! ### the end of a law whose defs hold generator expressions: their tables are empty behind the top -/
theorem walk_tabs {l : PySem.W.OpenLaw} {n k : Nat} {q : Program} {loose : List Str} {XP : (Str → Option Value) → Heap → Prop} {YP : World → Heap → Prop} {d : DefRec} {K : Params → PySem.W.Frag} {x : Str}
    (hn : l.most = some n) (hn2 : n ≤ sizeLine) (hdf : d.params.defaults = []) (hr : Room k callerA) (hY : ∀ (w : World) (h : Heap), YP w h → (K w.params).In h)
    (F : ∀ (w : World) (mg : Str → Option Value) (fa : Addr) (h : Heap), (K w.params).In h → h.Ns mainGlobals mg → mg d.name = some (.ref fa) →
      (∀ (y : Str) (fy : Addr), ((recsOf q).any fun e => e.name == y) = true → mg y = some (.ref fy) → LamX.OwnTab (K w.params) fy h) → LamX.LawAtS l w (K w.params) CX0 k n x mg fa h) :
    PySem.W.WalkO q loose XP YP l.row.toRowW d [] (fun f vs => PySem.call f vs) := by
  refine Att.attach_callB hn hdf fun w s₀ s₁ mg mb fa o pm cd doc a vs ns G Y ho hd hcd hmg hobj hints hlen hbits hg => ?_
  have KX := hY w _ Y
  have tabs : ∀ (y : Str) (fy : Addr), ((recsOf q).any fun e => e.name == y) = true → mg y = some (.ref fy) → LamX.OwnTab (K w.params) fy s₁.heap := fun y fy hy hm c P o1 fd1 e dd vs1 sl k1 k2 k3 k4 k5 => by
    obtain ⟨dL, hmem, hnm⟩ := List.any_eq_true.mp hy
    have hnm : dL.name = y := beq_iff_eq.mp hnm
    obtain ⟨a', o', fd', c', P', h1, h2, h3, h4, h5, h6⟩ := G.T.tab dL hmem
    rw [hnm, hm] at h1
    cases h1
    rw [KX _ _ k1] at h2
    cases h2
    rw [k2] at h3
    cases h3
    rw [k3] at h4
    cases h4
    obtain ⟨⟨oc, vc, e1, _, e3, e4⟩, hP⟩ := h6
    rw [KX _ _ k4] at e1
    cases e1
    cases e3
    rw [k5] at e4
    cases e4
    exact hP
  obtain ⟨fd, cs, sp, hT, nT, C, hb, hsp, hF⟩ := F w mg fa _ KX G.T.g hmg tabs
  exact LamX.law_callTs KX G.T.g G.T.b G.T.builtins G.T.nolimit hg hT nT C G.T.bmain hobj hints (Nat.le_trans hlen hn2) hr hF hb (fun H hH hS => hsp H a ns hlen hbits hH hS) fun H e s' z => z
/-- where a def stands, and where its code object does -/
structure At (K : PySem.W.Frag) (x : Str) (st : Stmt) (f : Addr) : Prop where
  ns : PySem.W.nsIn K mainGlobals x = some (some (.ref f))
  ex : ∃ (oc : Value) (od : Option Addr) (kV doc pm : Value) (an : Option Addr) (cdv ct : Value) (osl : Array (Option Value)),
    K.lookup f = some ⟨oc, od, .func (PySem.W.fnOf x x (defArgs st) (defBody st) (defScope st) .none kV doc pm an cdv ct), osl⟩ ∧ PySem.W.codeIn K cdv x = true
  kp : PySem.W.keepIn K (.ref f) = true
theorem at_mk {K : PySem.W.Frag} {x : Str} {st : Stmt} {f : Addr} {oc : Value} {od an : Option Addr} {osl : Array (Option Value)} {kV doc pm cdv ct : Value} (a : PySem.W.nsIn K mainGlobals x = some (some (.ref f)))
    (l : K.lookup f = some ⟨oc, od, .func (PySem.W.fnOf x x (defArgs st) (defBody st) (defScope st) .none kV doc pm an cdv ct), osl⟩) (c : PySem.W.codeIn K cdv x = true) (k : PySem.W.keepIn K (.ref f) = true) : At K x st f := ⟨a, ⟨oc, od, kV, doc, pm, an, cdv, ct, osl, l, c⟩, k⟩
theorem At.fn {K : PySem.W.Frag} {x : Str} {st : Stmt} {f : Addr} (h : At K x st f) : ∃ fd, Fun K x x st f fd := by
  obtain ⟨oc, od, kV, doc, pm, an, cdv, ct, osl, l, c⟩ := h.ex
  exact ⟨_, fun_mk l c h.kp⟩
structure AtC (K : PySem.W.Frag) (x : Str) (st : Stmt) (f c Pt : Addr) : Prop where
  ns : PySem.W.nsIn K mainGlobals x = some (some (.ref f))
  ex : ∃ (oc : Value) (od : Option Addr) (kV doc pm : Value) (an : Option Addr) (ct : Value) (osl : Array (Option Value)),
    K.lookup f = some ⟨oc, od, .func (PySem.W.fnOf x x (defArgs st) (defBody st) (defScope st) .none kV doc pm an (.ref c) ct), osl⟩ ∧ PySem.W.codeIn K (.ref c) x = true
  kp : PySem.W.keepIn K (.ref f) = true
  co : ∃ (dd : Option Addr) (vs : Array Value) (sl : Array (Option Value)) (file : Str) (tf : Tok) (flags : Int) (tg : Tok) (inF : Bool) (text : Int) (tt : Tok), K.lookup c = some ⟨.type "code", dd, .fields vs, sl⟩ ∧ vs[11]? = some (.ref Pt) ∧ vs.getD 11 .none = .ref Pt ∧ vs.getD 18 .none = .str file tf ∧
    vs.getD 7 .none = .int flags tg ∧ vs.getD 9 .none = .bool inF ∧ vs.getD 10 .none = .int text tt ∧ c ≠ Pt
  nP : K.lookup Pt = none
theorem atC_mk {K : PySem.W.Frag} {x : Str} {st : Stmt} {f c Pt : Addr} {oc : Value} {od an dd : Option Addr} {osl sl : Array (Option Value)} {kV doc pm ct : Value} {vs : Array Value} {file : Str} {tf tg tt : Tok} {flags text : Int} {inF : Bool} (a : PySem.W.nsIn K mainGlobals x = some (some (.ref f)))
    (l : K.lookup f = some ⟨oc, od, .func (PySem.W.fnOf x x (defArgs st) (defBody st) (defScope st) .none kV doc pm an (.ref c) ct), osl⟩) (cc : PySem.W.codeIn K (.ref c) x = true) (k : PySem.W.keepIn K (.ref f) = true)
    (lc : K.lookup c = some ⟨.type "code", dd, .fields vs, sl⟩) (v11 : vs[11]? = some (.ref Pt)) (w11 : vs.getD 11 .none = .ref Pt) (v18 : vs.getD 18 .none = .str file tf) (v7 : vs.getD 7 .none = .int flags tg) (v9 : vs.getD 9 .none = .bool inF) (v10 : vs.getD 10 .none = .int text tt) (ne : c ≠ Pt)
    (nP : K.lookup Pt = none) : AtC K x st f c Pt := ⟨a, ⟨oc, od, kV, doc, pm, an, ct, osl, l, cc⟩, k, ⟨dd, vs, sl, file, tf, flags, tg, inF, text, tt, lc, v11, w11, v18, v7, v9, v10, ne⟩, nP⟩
theorem AtC.fn {K : PySem.W.Frag} {x : Str} {st : Stmt} {f c Pt : Addr} (h : AtC K x st f c Pt) : ∃ fd, FunC K x x st f fd c := by
  obtain ⟨oc, od, kV, doc, pm, an, ct, osl, l, cc⟩ := h.ex
  exact ⟨_, ⟨oc, od, kV, doc, pm, an, ct, osl, rfl, l, cc⟩, h.kp⟩
theorem AtC.hd {K : PySem.W.Frag} {h : Heap} {x : Str} {st : Stmt} {f c Pt : Addr} (a : AtC K x st f c Pt) (X : K.In h) : PySem.W.CodeHd h c Pt := by
  obtain ⟨dd, vs, sl, file, tf, flags, tg, inF, text, tt, lc, v11, w11, v18, v7, v9, v10, ne⟩ := a.co
  exact ⟨_, vs, file, tf, flags, tg, inF, text, tt, X _ _ lc, rfl, rfl, v11, w11, v18, v7, v9, v10, ne⟩
theorem AtC.tab {K : PySem.W.Frag} {h : Heap} {x : Str} {st : Stmt} {f c Pt : Addr} (a : AtC K x st f c Pt) (o : LamX.OwnTab K f h) : h.get? Pt = some { cls := .none, data := .fields #[] } := by
  obtain ⟨oc, od, kV, doc, pm, an, ct, osl, l, cc⟩ := a.ex
  obtain ⟨dd, vs, sl, file, tf, flags, tg, inF, text, tt, lc, v11, w11, v18, v7, v9, v10, ne⟩ := a.co
  exact o c Pt _ _ _ _ _ _ l rfl rfl lc v11
section
variable {P : Program} {w : World} {K : PySem.W.Frag} {mg : Str → Option Value} {base : Heap}
theorem Df.of {x : Str} {st : Stmt} {f : Addr} {fd : FuncData} {k : Nat} {ps : List Str} {sp : Sp} (g : mg x = some (.ref f)) (F : Fun K x x st f fd) (G : FnOk P w K mg base CX0 k f fd ps sp)
    (h : ∀ (kV doc pm : Value) (an : Option Addr) (cdv ct : Value) (us : List Value), us.length = ps.length → bindArgs (PySem.W.fnOf x x (defArgs st) (defBody st) (defScope st) .none kV doc pm an cdv ct) ⟨us, []⟩ = pure (ps.zip us)) : Df P w K mg base k x ps sp :=
  ⟨f, fd, G, g, F.kp, F.binds h⟩
end
/-- a def with defaults, as the top has written it -/
structure AtD (K : PySem.W.Frag) (x : Str) (st : Stmt) (f : Addr) (dvs : List V) : Prop where
  ns : PySem.W.nsIn K mainGlobals x = some (some (.ref f))
  fn : ∃ fd, FunD K x x (defArgs st) (defBody st) (defScope st) dvs [] f fd
theorem atD_mk {K : PySem.W.Frag} {x : Str} {st : Stmt} {f T : Addr} {dvs : List V} {oc : Value} {od an : Option Addr} {osl : Array (Option Value)} {kV doc pm cdv ct : Value} {o : Obj} {its : List Value} {n : Nat} (a : PySem.W.nsIn K mainGlobals x = some (some (.ref f)))
    (l : K.lookup f = some ⟨oc, od, .func (PySem.W.fnOf x x (defArgs st) (defBody st) (defScope st) (.ref T) kV doc pm an cdv ct), osl⟩) (c : PySem.W.codeIn K cdv x = true) (k : PySem.W.keepIn K (.ref f) = true)
    (lT : K.lookup T = some o) (oT : o.data = .seq its.toArray n) (hv : Vals dvs its) (ne : dvs ≠ []) : AtD K x st f dvs :=
  ⟨a, _, ⟨oc, od, .ref T, kV, doc, pm, an, cdv, ct, osl, rfl, l, c, .inr ⟨ne, T, o, its, n, rfl, lT, oT, hv⟩, .inl rfl⟩, k⟩
theorem DfD.of {P : Program} {w : World} {K : PySem.W.Frag} {mg : Str → Option Value} {base : Heap} {x : Str} {st : Stmt} {f : Addr} {fd : FuncData} {k : Nat} {ps : List Str} {sp : Sp} {dv : V} (g : mg x = some (.ref f)) (F : FunD K x x (defArgs st) (defBody st) (defScope st) [dv] [] f fd) (G : FnOk P w K mg base CX0 k f fd ps sp)
    (h2 : ∀ (T : Addr) (kV doc pm : Value) (an : Option Addr) (cdv ct : Value) (us its : List Value), us.length = ps.length → its.length = 1 → ∃ k, bindArgs (PySem.W.fnOf x x (defArgs st) (defBody st) (defScope st) (.ref T) kV doc pm an cdv ct) ⟨us, []⟩ = seqItems? (.ref T) >>= k ∧ k (some its.toArray) = pure (ps.zip (us ++ its.drop 1)))
    (h1 : ∀ (T : Addr) (kV doc pm : Value) (an : Option Addr) (cdv ct : Value) (us its : List Value), us.length = ps.length - 1 → its.length = 1 → ∃ k, bindArgs (PySem.W.fnOf x x (defArgs st) (defBody st) (defScope st) (.ref T) kV doc pm an cdv ct) ⟨us, []⟩ = seqItems? (.ref T) >>= k ∧ k (some its.toArray) = pure (ps.zip (us ++ its.drop 0)))
    (hp : 1 ≤ ps.length) : DfD P w K mg base k x ps sp [dv] := by
  obtain ⟨ds2, v2, b2⟩ := F.binds1 (ps := ps) ps.length 1 (fun z => by cases z) (by simp) h2
  obtain ⟨ds1, v1, b1⟩ := F.binds1 (ps := ps) (ps.length - 1) 0 (fun z => by cases z) (by show ps.length - 1 + (1 - 0) = ps.length; omega) h1
  have e2 : ds2 = [] := by
    cases v2
    rfl
  subst e2
  exact ⟨f, fd, G, g, F.kp, b2, ds1, v1, b1⟩
/-! ### what the top has written -/
section
variable {P : Program} {w : World} {K : PySem.W.Frag} {mg : Str → Option Value} {base : Heap}
set_option maxHeartbeats 0 in
theorem law_at {l : PySem.W.OpenLaw} {w : World} {K : PySem.W.Frag} {h : Heap} {mg : Str → Option Value} {fa f0 f1 f2 f3 f4 f5 f6 f7 f8 f9 f10 f11 f12 f13 f14 f15 f16 f17 f18 f19 f20 f21 f22 f23 f24 f25 f26 f27 f28 f29 f30 f31 f32 f33 f34 f35 f36 f37 f38 f39 f40 f41 f42 f43 f44 f45 f46 f47 f48 c9 P9 c16 P16 c17 P17 c18 P18 c22 P22 c24 P24 c27 P27 c28 P28 c29 P29 : Addr} {nt0 : Tok} (X : K.In h) (G : h.Ns mainGlobals mg) (hfa : mg "law" = some (.ref fa))
    (t9 : ∀ (fy : Addr), mg "are_rising_below" = some (.ref fy) → LamX.OwnTab K fy h)
    (t16 : ∀ (fy : Addr), mg "mend_weight" = some (.ref fy) → LamX.OwnTab K fy h)
    (t17 : ∀ (fy : Addr), mg "odd_parts" = some (.ref fy) → LamX.OwnTab K fy h)
    (t18 : ∀ (fy : Addr), mg "small_odd_parts" = some (.ref fy) → LamX.OwnTab K fy h)
    (t22 : ∀ (fy : Addr), mg "are_unlike_below" = some (.ref fy) → LamX.OwnTab K fy h)
    (t24 : ∀ (fy : Addr), mg "ring_holds" = some (.ref fy) → LamX.OwnTab K fy h)
    (t27 : ∀ (fy : Addr), mg "is_ring_row" = some (.ref fy) → LamX.OwnTab K fy h)
    (t28 : ∀ (fy : Addr), mg "rings_show" = some (.ref fy) → LamX.OwnTab K fy h)
    (t29 : ∀ (fy : Addr), mg "is_split_row" = some (.ref fy) → LamX.OwnTab K fy h)
    (a0 : At K "neighbours" s_neighbours f0)
    (a1 : At K "sides_from" s_sides_from f1)
    (a2 : At K "parts_of" s_parts_of f2)
    (a3 : At K "ties_within" s_ties_within f3)
    (a4 : At K "is_whole" s_is_whole f4)
    (a5 : At K "is_whole_from" s_is_whole_from f5)
    (a6 : At K "is_whole_below" s_is_whole_below f6)
    (a7 : At K "are_unlike_places" s_are_unlike_places f7)
    (a8 : At K "is_tuple_of" s_is_tuple_of f8)
    (a9 : AtC K "are_rising_below" s_are_rising_below f9 c9 P9)
    (a10 : At K "breaks" s_breaks f10)
    (a11 : At K "broken_by" s_broken_by f11)
    (a12 : At K "sides_of" s_sides_of f12)
    (a13 : At K "weight_of" s_weight_of f13)
    (a14 : At K "without" s_without f14)
    (a15 : At K "mend_holds" s_mend_holds f15)
    (a16 : AtC K "mend_weight" s_mend_weight f16 c16 P16)
    (a17 : AtC K "odd_parts" s_odd_parts f17 c17 P17)
    (a18 : AtC K "small_odd_parts" s_small_odd_parts f18 c18 P18)
    (a19 : At K "all_sides" s_all_sides f19)
    (a20 : At K "least_of_part" s_least_of_part f20)
    (a21 : AtD K "least_mend" s_least_mend f21 [.non])
    (a22 : AtC K "are_unlike_below" s_are_unlike_below f22 c22 P22)
    (a23 : At K "joins" s_joins f23)
    (a24 : AtC K "ring_holds" s_ring_holds f24 c24 P24)
    (a25 : At K "foes_in" s_foes_in f25)
    (a26 : At K "odd_ring_holds" s_odd_ring_holds f26)
    (a27 : AtC K "is_ring_row" s_is_ring_row f27 c27 P27)
    (a28 : AtC K "rings_show" s_rings_show f28 c28 P28)
    (a29 : AtC K "is_split_row" s_is_split_row f29 c29 P29)
    (a30 : At K "split_shows" s_split_shows f30)
    (a31 : At K "case_shows" s_case_shows f31)
    (a32 : At K "knot_shows" s_knot_shows f32)
    (a33 : At K "shown_by" s_shown_by f33)
    (a34 : At K "ring_row" s_ring_row f34)
    (a35 : At K "known_broken" s_known_broken f35)
    (a36 : At K "part_paper" s_part_paper f36)
    (a37 : AtD K "paper_of" s_paper_of f37 [.non])
    (a38 : At K "_law_deck" s_l_deck f38)
    (a39 : At K "_law_take" s_l_take f39)
    (a40 : At K "_law_long" s_l_long f40)
    (a41 : At K "_law_ties" s_l_ties f41)
    (a42 : At K "_law_shuffled" s_l_shuffled f42)
    (a43 : At K "_law_weighed" s_l_weighed f43)
    (a44 : At K "_law_least" s_l_least f44)
    (a45 : At K "_law_both" s_l_both f45)
    (a46 : At K "_law_both_right" s_l_both_right f46)
    (a47 : At K "_law_more" s_l_more f47)
    (a48 : At K "law" s_law f48)
    (z0 : PySem.W.nsIn K mainGlobals "len" = some none)
    (z1 : PySem.W.nsIn K mainGlobals "int" = some none)
    (z2 : PySem.W.nsIn K mainGlobals "bool" = some none)
    (z3 : PySem.W.nsIn K mainGlobals "str" = some none)
    (z4 : PySem.W.nsIn K mainGlobals "list" = some none)
    (z5 : PySem.W.nsIn K mainGlobals "tuple" = some none)
    (z6 : PySem.W.nsIn K mainGlobals "range" = some none)
    (z7 : PySem.W.nsIn K mainGlobals "isinstance" = some none)
    (z8 : PySem.W.nsIn K mainGlobals "sum" = some none)
    (z9 : PySem.W.nsIn K mainGlobals "all" = some none)
    (z10 : PySem.W.nsIn K mainGlobals "any" = some none)
    (z11 : PySem.W.nsIn K mainGlobals "enumerate" = some none)
    (z12 : PySem.W.nsIn K mainGlobals "min" = some none)
    (z13 : PySem.W.nsIn K mainGlobals "set" = some none)
    (z14 : PySem.W.nsIn K mainGlobals "sorted" = some none)
    (z15 : PySem.W.nsIn K mainGlobals "zip" = some none)
    (n0 : PySem.W.nsIn K mainGlobals "MOST_PLACES" = some (some (.int 8 nt0))) :
    LamX.LawAtS l w K CX0 58 63 "_law_script" mg fa h := by
  have efa := hfa.symm.trans (PySem.W.mg_of X G a48.ns)
  cases efa
  have M : Free mg := ⟨PySem.W.mg_none_of X G z0, PySem.W.mg_none_of X G z1, PySem.W.mg_none_of X G z2, PySem.W.mg_none_of X G z3, PySem.W.mg_none_of X G z4, PySem.W.mg_none_of X G z5, PySem.W.mg_none_of X G z6, PySem.W.mg_none_of X G z7, PySem.W.mg_none_of X G z8⟩
  have m_all := PySem.W.mg_none_of X G z9
  have m_any := PySem.W.mg_none_of X G z10
  have m_enumerate := PySem.W.mg_none_of X G z11
  have m_min := PySem.W.mg_none_of X G z12
  have m_set := PySem.W.mg_none_of X G z13
  have m_sorted := PySem.W.mg_none_of X G z14
  have m_zip := PySem.W.mg_none_of X G z15
  obtain ⟨d0, F0⟩ := a0.fn
  obtain ⟨d1, F1⟩ := a1.fn
  obtain ⟨d2, F2⟩ := a2.fn
  obtain ⟨d3, F3⟩ := a3.fn
  obtain ⟨d4, F4⟩ := a4.fn
  obtain ⟨d5, F5⟩ := a5.fn
  obtain ⟨d6, F6⟩ := a6.fn
  obtain ⟨d7, F7⟩ := a7.fn
  obtain ⟨d8, F8⟩ := a8.fn
  obtain ⟨d9, F9⟩ := a9.fn
  obtain ⟨d10, F10⟩ := a10.fn
  obtain ⟨d11, F11⟩ := a11.fn
  obtain ⟨d12, F12⟩ := a12.fn
  obtain ⟨d13, F13⟩ := a13.fn
  obtain ⟨d14, F14⟩ := a14.fn
  obtain ⟨d15, F15⟩ := a15.fn
  obtain ⟨d16, F16⟩ := a16.fn
  obtain ⟨d17, F17⟩ := a17.fn
  obtain ⟨d18, F18⟩ := a18.fn
  obtain ⟨d19, F19⟩ := a19.fn
  obtain ⟨d20, F20⟩ := a20.fn
  obtain ⟨d21, F21⟩ := a21.fn
  obtain ⟨d22, F22⟩ := a22.fn
  obtain ⟨d23, F23⟩ := a23.fn
  obtain ⟨d24, F24⟩ := a24.fn
  obtain ⟨d25, F25⟩ := a25.fn
  obtain ⟨d26, F26⟩ := a26.fn
  obtain ⟨d27, F27⟩ := a27.fn
  obtain ⟨d28, F28⟩ := a28.fn
  obtain ⟨d29, F29⟩ := a29.fn
  obtain ⟨d30, F30⟩ := a30.fn
  obtain ⟨d31, F31⟩ := a31.fn
  obtain ⟨d32, F32⟩ := a32.fn
  obtain ⟨d33, F33⟩ := a33.fn
  obtain ⟨d34, F34⟩ := a34.fn
  obtain ⟨d35, F35⟩ := a35.fn
  obtain ⟨d36, F36⟩ := a36.fn
  obtain ⟨d37, F37⟩ := a37.fn
  obtain ⟨d38, F38⟩ := a38.fn
  obtain ⟨d39, F39⟩ := a39.fn
  obtain ⟨d40, F40⟩ := a40.fn
  obtain ⟨d41, F41⟩ := a41.fn
  obtain ⟨d42, F42⟩ := a42.fn
  obtain ⟨d43, F43⟩ := a43.fn
  obtain ⟨d44, F44⟩ := a44.fn
  obtain ⟨d45, F45⟩ := a45.fn
  obtain ⟨d46, F46⟩ := a46.fn
  obtain ⟨d47, F47⟩ := a47.fn
  obtain ⟨d48, F48⟩ := a48.fn
  have g0 := PySem.W.mg_of X G a0.ns
  have g1 := PySem.W.mg_of X G a1.ns
  have g2 := PySem.W.mg_of X G a2.ns
  have g3 := PySem.W.mg_of X G a3.ns
  have g4 := PySem.W.mg_of X G a4.ns
  have g5 := PySem.W.mg_of X G a5.ns
  have g6 := PySem.W.mg_of X G a6.ns
  have g7 := PySem.W.mg_of X G a7.ns
  have g8 := PySem.W.mg_of X G a8.ns
  have g9 := PySem.W.mg_of X G a9.ns
  have g10 := PySem.W.mg_of X G a10.ns
  have g11 := PySem.W.mg_of X G a11.ns
  have g12 := PySem.W.mg_of X G a12.ns
  have g13 := PySem.W.mg_of X G a13.ns
  have g14 := PySem.W.mg_of X G a14.ns
  have g15 := PySem.W.mg_of X G a15.ns
  have g16 := PySem.W.mg_of X G a16.ns
  have g17 := PySem.W.mg_of X G a17.ns
  have g18 := PySem.W.mg_of X G a18.ns
  have g19 := PySem.W.mg_of X G a19.ns
  have g20 := PySem.W.mg_of X G a20.ns
  have g21 := PySem.W.mg_of X G a21.ns
  have g22 := PySem.W.mg_of X G a22.ns
  have g23 := PySem.W.mg_of X G a23.ns
  have g24 := PySem.W.mg_of X G a24.ns
  have g25 := PySem.W.mg_of X G a25.ns
  have g26 := PySem.W.mg_of X G a26.ns
  have g27 := PySem.W.mg_of X G a27.ns
  have g28 := PySem.W.mg_of X G a28.ns
  have g29 := PySem.W.mg_of X G a29.ns
  have g30 := PySem.W.mg_of X G a30.ns
  have g31 := PySem.W.mg_of X G a31.ns
  have g32 := PySem.W.mg_of X G a32.ns
  have g33 := PySem.W.mg_of X G a33.ns
  have g34 := PySem.W.mg_of X G a34.ns
  have g35 := PySem.W.mg_of X G a35.ns
  have g36 := PySem.W.mg_of X G a36.ns
  have g37 := PySem.W.mg_of X G a37.ns
  have g38 := PySem.W.mg_of X G a38.ns
  have g39 := PySem.W.mg_of X G a39.ns
  have g40 := PySem.W.mg_of X G a40.ns
  have g41 := PySem.W.mg_of X G a41.ns
  have g42 := PySem.W.mg_of X G a42.ns
  have g43 := PySem.W.mg_of X G a43.ns
  have g44 := PySem.W.mg_of X G a44.ns
  have g45 := PySem.W.mg_of X G a45.ns
  have g46 := PySem.W.mg_of X G a46.ns
  have g47 := PySem.W.mg_of X G a47.ns
  have hb0 : ∀ (s : Shared) (u : Value), BindsTo s d48 ⟨[u], []⟩ [("_law_script", u)] := by
    obtain ⟨oc, od, kV, doc, pm, an, cdv, ct, osl, rfl, _⟩ := F48.ex
    exact fun s u => .of_eq rfl
  refine ⟨d48, [(c9, P9), (c16, P16), (c17, P17), (c18, P18), (c22, P22), (c24, P24), (c27, P27), (c28, P28), (c29, P29)], (spLaw K [P9, P16, P17, P18, P22, P24, P27, P28, P29]), (List.forall_mem_cons.mpr ⟨a9.tab (t9 _ g9), (List.forall_mem_cons.mpr ⟨a16.tab (t16 _ g16), (List.forall_mem_cons.mpr ⟨a17.tab (t17 _ g17), (List.forall_mem_cons.mpr ⟨a18.tab (t18 _ g18), (List.forall_mem_cons.mpr ⟨a22.tab (t22 _ g22), (List.forall_mem_cons.mpr ⟨a24.tab (t24 _ g24), (List.forall_mem_cons.mpr ⟨a27.tab (t27 _ g27), (List.forall_mem_cons.mpr ⟨a28.tab (t28 _ g28), (List.forall_mem_cons.mpr ⟨a29.tab (t29 _ g29), (fun p hp => by simp at hp)⟩)⟩)⟩)⟩)⟩)⟩)⟩)⟩)⟩), (List.forall_mem_cons.mpr ⟨a9.nP, (List.forall_mem_cons.mpr ⟨a16.nP, (List.forall_mem_cons.mpr ⟨a17.nP, (List.forall_mem_cons.mpr ⟨a18.nP, (List.forall_mem_cons.mpr ⟨a22.nP, (List.forall_mem_cons.mpr ⟨a24.nP, (List.forall_mem_cons.mpr ⟨a27.nP, (List.forall_mem_cons.mpr ⟨a28.nP, (List.forall_mem_cons.mpr ⟨a29.nP, (fun p hp => by simp at hp)⟩)⟩)⟩)⟩)⟩)⟩)⟩)⟩)⟩), (List.forall_mem_cons.mpr ⟨a9.hd X, (List.forall_mem_cons.mpr ⟨a16.hd X, (List.forall_mem_cons.mpr ⟨a17.hd X, (List.forall_mem_cons.mpr ⟨a18.hd X, (List.forall_mem_cons.mpr ⟨a22.hd X, (List.forall_mem_cons.mpr ⟨a24.hd X, (List.forall_mem_cons.mpr ⟨a27.hd X, (List.forall_mem_cons.mpr ⟨a28.hd X, (List.forall_mem_cons.mpr ⟨a29.hd X, (fun p hp => by simp at hp)⟩)⟩)⟩)⟩)⟩)⟩)⟩)⟩)⟩), hb0, fun H a ns hl _ hT hS => ⟨a, ns, rfl, hS, hl, (List.forall_mem_cons.mpr ⟨⟨#[], hT (c9, P9) (by simp), by trivial⟩, (List.forall_mem_cons.mpr ⟨⟨#[], hT (c16, P16) (by simp), by trivial⟩, (List.forall_mem_cons.mpr ⟨⟨#[], hT (c17, P17) (by simp), by trivial⟩, (List.forall_mem_cons.mpr ⟨⟨#[], hT (c18, P18) (by simp), by trivial⟩, (List.forall_mem_cons.mpr ⟨⟨#[], hT (c22, P22) (by simp), by trivial⟩, (List.forall_mem_cons.mpr ⟨⟨#[], hT (c24, P24) (by simp), by trivial⟩, (List.forall_mem_cons.mpr ⟨⟨#[], hT (c27, P27) (by simp), by trivial⟩, (List.forall_mem_cons.mpr ⟨⟨#[], hT (c28, P28) (by simp), by trivial⟩, (List.forall_mem_cons.mpr ⟨⟨#[], hT (c29, P29) (by simp), by trivial⟩, (fun p hp => by simp at hp)⟩)⟩)⟩)⟩)⟩)⟩)⟩)⟩)⟩), fun _ => rfl⟩, fun base KB GB TB => ?_⟩
  have tb9 := TB (c9, P9) (by simp)
  have tb16 := TB (c16, P16) (by simp)
  have tb17 := TB (c17, P17) (by simp)
  have tb18 := TB (c18, P18) (by simp)
  have tb22 := TB (c22, P22) (by simp)
  have tb24 := TB (c24, P24) (by simp)
  have tb27 := TB (c27, P27) (by simp)
  have tb28 := TB (c28, P28) (by simp)
  have tb29 := TB (c29, P29) (by simp)
  have D0 : Df l.prog w K mg base 1 "neighbours" ["web"] spNeighbours := .of g0 F0 (ok_neighbours F0 M) fun _ _ _ _ _ _ us hl => match us, hl with | [_], _ => rfl
  have D1 : Df l.prog w K mg base 1 "sides_from" ["start", "around"] spSidesFrom := .of g1 F1 (ok_sides_from F1 M) fun _ _ _ _ _ _ us hl => match us, hl with | [_, _], _ => rfl
  have D2 : Df l.prog w K mg base 2 "parts_of" ["web"] spPartsOf := .of g2 F2 (ok_parts_of F2 M m_sorted D0 D1) fun _ _ _ _ _ _ us hl => match us, hl with | [_], _ => rfl
  have D3 : Df l.prog w K mg base 1 "ties_within" ["web", "part"] spTiesWithin := .of g3 F3 (ok_ties_within F3 M m_enumerate) fun _ _ _ _ _ _ us hl => match us, hl with | [_, _], _ => rfl
  have D4 : Df l.prog w K mg base 1 "is_whole" ["thing"] spWhole := .of g4 F4 (ok_is_whole F4 M) fun _ _ _ _ _ _ us hl => match us, hl with | [_], _ => rfl
  have D5 : Df l.prog w K mg base 2 "is_whole_from" ["low", "thing"] spFrom := .of g5 F5 (ok_is_whole_from F5 D4) fun _ _ _ _ _ _ us hl => match us, hl with | [_, _], _ => rfl
  have D6 : Df l.prog w K mg base 2 "is_whole_below" ["limit", "thing"] spBelow := .of g6 F6 (ok_is_whole_below F6 D4) fun _ _ _ _ _ _ us hl => match us, hl with | [_, _], _ => rfl
  have D7 : Df l.prog w K mg base 3 "are_unlike_places" ["many", "one", "other"] spUnlikePl := .of g7 F7 (ok_are_unlike_places F7 D6) fun _ _ _ _ _ _ us hl => match us, hl with | [_, _, _], _ => rfl
  have D8 : Df l.prog w K mg base 1 "is_tuple_of" ["length", "thing"] spTupleOf := .of g8 F8 (ok_is_tuple_of F8 M) fun _ _ _ _ _ _ us hl => match us, hl with | [_, _], _ => rfl
  have D9 : Df l.prog w K mg base 4 "are_rising_below" ["limit", "thing"] (spRising [P9, P16, P17, P18, P22, P24, P27, P28, P29]) := .of g9 F9.fn (ok_are_rising_below F9 ⟨tb9.code, tb9.bm, tb9.gP⟩ (show P9 ∈ [P9, P16, P17, P18, P22, P24, P27, P28, P29] by simp) M m_all m_zip D6) fun _ _ _ _ _ _ us hl => match us, hl with | [_, _], _ => rfl
  have D10 : Df l.prog w K mg base 1 "breaks" ["sides", "tie"] spBreaks88 := .of g10 F10 (ok_breaks88 F10) fun _ _ _ _ _ _ us hl => match us, hl with | [_, _], _ => rfl
  have D11 : Df l.prog w K mg base 2 "broken_by" ["web", "sides"] spBroken := .of g11 F11 (ok_broken_by F11 M m_enumerate (D10.imp fun _ _ _ _ h => .inr h)) fun _ _ _ _ _ _ us hl => match us, hl with | [_, _], _ => rfl
  have D12 : Df l.prog w K mg base 3 "sides_of" ["web"] spFixed := .of g12 F12 (ok_sides_of F12 M D0 D1 D11) fun _ _ _ _ _ _ us hl => match us, hl with | [_], _ => rfl
  have D13 : Df l.prog w K mg base 1 "weight_of" ["weights", "tie"] spWeightOf := .of g13 F13 (ok_weight_of F13) fun _ _ _ _ _ _ us hl => match us, hl with | [_, _], _ => rfl
  have D14 : Df l.prog w K mg base 1 "without" ["web", "numbers"] spWithout := .of g14 F14 (ok_without F14 M m_enumerate) fun _ _ _ _ _ _ us hl => match us, hl with | [_, _], _ => rfl
  have D15 : Df l.prog w K mg base 5 "mend_holds" ["web", "thing"] (spMendHolds [P9, P16, P17, P18, P22, P24, P27, P28, P29]) := .of g15 F15 (ok_mend_holds F15 M D14 D12 D9) fun _ _ _ _ _ _ us hl => match us, hl with | [_, _], _ => rfl
  have D16 : Df l.prog w K mg base 3 "mend_weight" ["weights", "ties"] (spMend [P9, P16, P17, P18, P22, P24, P27, P28, P29]) := .of g16 F16.fn (ok_mend_weight F16 ⟨tb16.code, tb16.bm, tb16.gP⟩ (show P16 ∈ [P9, P16, P17, P18, P22, P24, P27, P28, P29] by simp) M D13) fun _ _ _ _ _ _ us hl => match us, hl with | [_, _], _ => rfl
  have D17 : Df l.prog w K mg base 4 "odd_parts" ["web"] (spOddParts [P9, P16, P17, P18, P22, P24, P27, P28, P29]) := .of g17 F17.fn (ok_odd_parts F17 ⟨tb17.code, tb17.bm, tb17.gP⟩ (show P17 ∈ [P9, P16, P17, P18, P22, P24, P27, P28, P29] by simp) m_any D0 D2 D3 D1 (D10.imp fun _ _ _ _ h => .inl h)) fun _ _ _ _ _ _ us hl => match us, hl with | [_], _ => rfl
  have D18 : Df l.prog w K mg base 6 "small_odd_parts" ["web"] (spSmallOdd [P9, P16, P17, P18, P22, P24, P27, P28, P29]) := .of g18 F18.fn (ok_small_odd_parts F18 ⟨tb18.code, tb18.bm, tb18.gP⟩ (show P18 ∈ [P9, P16, P17, P18, P22, P24, P27, P28, P29] by simp) M m_any (PySem.W.mg_of X G n0) D17) fun _ _ _ _ _ _ us hl => match us, hl with | [_], _ => rfl
  have D19 : Df l.prog w K mg base 1 "all_sides" ["part"] spAllSides := .of g19 F19 (ok_all_sides F19) fun _ _ _ _ _ _ us hl => match us, hl with | [_], _ => rfl
  have D20 : Df l.prog w K mg base 4 "least_of_part" ["web", "weights", "part", "ties"] (spLeastOf [P9, P16, P17, P18, P22, P24, P27, P28, P29]) := .of g20 F20 (ok_least_of_part F20 M m_min D19 (D10.imp fun _ _ _ _ h => .inl h) D16) fun _ _ _ _ _ _ us hl => match us, hl with | [_, _, _, _], _ => rfl
  have D21 : DfD l.prog w K mg base 7 "least_mend" ["web", "weights"] (spLeastMend [P9, P16, P17, P18, P22, P24, P27, P28, P29]) [.non] := .of g21 F21 (ok_least_mend F21 M m_sorted D18 D20 D16) (fun T kV doc pm an cdv ct us its hl hi => match us, hl, its, hi with | [_, _], _, [_], _ => ⟨_, rfl, rfl⟩) (fun T kV doc pm an cdv ct us its hl hi => match us, hl, its, hi with | [_], _, [_], _ => ⟨_, rfl, rfl⟩) (by decide)
  have D22 : Df l.prog w K mg base 4 "are_unlike_below" ["limit", "thing"] (spUnlike [P9, P16, P17, P18, P22, P24, P27, P28, P29]) := .of g22 F22.fn (ok_are_unlike F22 ⟨tb22.code, tb22.bm, tb22.gP⟩ (show P22 ∈ [P9, P16, P17, P18, P22, P24, P27, P28, P29] by simp) M m_all m_set D6) fun _ _ _ _ _ _ us hl => match us, hl with | [_, _], _ => rfl
  have D23 : Df l.prog w K mg base 1 "joins" ["tie", "one", "other"] spJoins := .of g23 F23 (ok_joins F23) fun _ _ _ _ _ _ us hl => match us, hl with | [_, _, _], _ => rfl
  have D24 : Df l.prog w K mg base 5 "ring_holds" ["web", "thing"] (spRing [P9, P16, P17, P18, P22, P24, P27, P28, P29]) := .of g24 F24.fn (ok_ring_holds F24 ⟨tb24.code, tb24.bm, tb24.gP⟩ (show P24 ∈ [P9, P16, P17, P18, P22, P24, P27, P28, P29] by simp) M m_all m_zip D8 D22 D23) fun _ _ _ _ _ _ us hl => match us, hl with | [_, _], _ => rfl
  have D25 : Df l.prog w K mg base 1 "foes_in" ["web", "ring"] spFoes := .of g25 F25 (ok_foes_in F25 M) fun _ _ _ _ _ _ us hl => match us, hl with | [_, _], _ => rfl
  have D26 : Df l.prog w K mg base 6 "odd_ring_holds" ["web", "thing"] (spOdd [P9, P16, P17, P18, P22, P24, P27, P28, P29]) := .of g26 F26 (ok_odd_ring F26 D24 D25) fun _ _ _ _ _ _ us hl => match us, hl with | [_, _], _ => rfl
  have D27 : Df l.prog w K mg base 9 "is_ring_row" ["web", "limits", "given", "thing"] (spRingRow [P9, P16, P17, P18, P22, P24, P27, P28, P29]) := .of g27 F27.fn (ok_is_ring_row F27 ⟨tb27.code, tb27.bm, tb27.gP⟩ (show P27 ∈ [P9, P16, P17, P18, P22, P24, P27, P28, P29] by simp) M m_all D8 D26 D5) fun _ _ _ _ _ _ us hl => match us, hl with | [_, _, _, _], _ => rfl
  have D28 : Df l.prog w K mg base 11 "rings_show" ["web", "limits", "given", "rows"] (spRingsShow [P9, P16, P17, P18, P22, P24, P27, P28, P29]) := .of g28 F28.fn (ok_rings_show F28 ⟨tb28.code, tb28.bm, tb28.gP⟩ (show P28 ∈ [P9, P16, P17, P18, P22, P24, P27, P28, P29] by simp) M m_any D27) fun _ _ _ _ _ _ us hl => match us, hl with | [_, _, _, _], _ => rfl
  have D29 : Df l.prog w K mg base 6 "is_split_row" ["limits", "given", "taken", "thing"] (spSplitRow [P9, P16, P17, P18, P22, P24, P27, P28, P29]) := .of g29 F29.fn (ok_is_split_row F29 ⟨tb29.code, tb29.bm, tb29.gP⟩ (show P29 ∈ [P9, P16, P17, P18, P22, P24, P27, P28, P29] by simp) M m_all D9 D8) fun _ _ _ _ _ _ us hl => match us, hl with | [_, _, _, _], _ => rfl
  have D30 : Df l.prog w K mg base 1 "split_shows" ["web", "limits", "given", "rows"] (fun _ _ _ _ => False) := .of g30 F30 (⟨fun vs H Q E h => h.elim, fun B out z H ar us vs Q E _ _ _ _ h => h.elim⟩) fun _ _ _ _ _ _ us hl => match us, hl with | [_, _, _, _], _ => rfl
  have D31 : Df l.prog w K mg base 1 "case_shows" ["web", "limits", "given", "thing"] (fun _ _ _ _ => False) := .of g31 F31 (⟨fun vs H Q E h => h.elim, fun B out z H ar us vs Q E _ _ _ _ h => h.elim⟩) fun _ _ _ _ _ _ us hl => match us, hl with | [_, _, _, _], _ => rfl
  have D32 : Df l.prog w K mg base 54 "knot_shows" ["web", "limits", "given", "thing"] (spKnot [P9, P16, P17, P18, P22, P24, P27, P28, P29] 17) := .of g32 F32 (ok_knots F32 F30 F31 M m_min g32 g30 g31 (F32.binds fun _ _ _ _ _ _ us hl => match us, hl with | [_, _, _, _], _ => rfl) (F30.binds fun _ _ _ _ _ _ us hl => match us, hl with | [_, _, _, _], _ => rfl) (F31.binds fun _ _ _ _ _ _ us hl => match us, hl with | [_, _, _, _], _ => rfl) D8 D28 D29 D7 17) fun _ _ _ _ _ _ us hl => match us, hl with | [_, _, _, _], _ => rfl
  have D33 : Df l.prog w K mg base 55 "shown_by" ["web", "weights", "thing"] (spShownBy [P9, P16, P17, P18, P22, P24, P27, P28, P29] 16) := .of g33 F33 (ok_shown_by 16 F33 M D13 D32) fun _ _ _ _ _ _ us hl => match us, hl with | [_, _, _], _ => rfl
  have D34 : Df l.prog w K mg base 2 "ring_row" ["web", "weights", "part", "tie"] spRingRow41 := .of g34 F34 (ok_ring_row F34 M D13) fun _ _ _ _ _ _ us hl => match us, hl with | [_, _, _, _], _ => rfl
  have D35 : Df l.prog w K mg base 2 "known_broken" ["web", "ties", "sides"] spKnown := .of g35 F35 (ok_known_broken F35 (D10.imp fun _ _ _ _ h => .inl h)) fun _ _ _ _ _ _ us hl => match us, hl with | [_, _, _], _ => rfl
  have D36 : Df l.prog w K mg base 12 "part_paper" ["web", "weights", "row", "least", "sides"] (spPartAny [P9, P16, P17, P18, P22, P24, P27, P28, P29]) := .of g36 F36 (ok_part_any (ok_part_paper F36 M g36 (F36.binds fun _ _ _ _ _ _ us hl => match us, hl with | [_, _, _, _, _], _ => rfl) D35 D16 D34)) fun _ _ _ _ _ _ us hl => match us, hl with | [_, _, _, _, _], _ => rfl
  have D37 : DfD l.prog w K mg base 13 "paper_of" ["web", "weights"] (spPaperOf [P9, P16, P17, P18, P22, P24, P27, P28, P29]) [.non] := .of g37 F37 (ok_paper_of F37 M D18 D20 D36) (fun T kV doc pm an cdv ct us its hl hi => match us, hl, its, hi with | [_, _], _, [_], _ => ⟨_, rfl, rfl⟩) (fun T kV doc pm an cdv ct us its hl hi => match us, hl, its, hi with | [_], _, [_], _ => ⟨_, rfl, rfl⟩) (by decide)
  have D38 : Df l.prog w K mg base 1 "_law_deck" ["_law_script"] (spDeck K) := .of g38 F38 (ok_l_deck F38 M) fun _ _ _ _ _ _ us hl => match us, hl with | [_], _ => rfl
  have D39 : Df l.prog w K mg base 1 "_law_take" ["_law_deck_here", "_law_many"] spDraw := .of g39 F39 (ok_l_take F39 M) fun _ _ _ _ _ _ us hl => match us, hl with | [_, _], _ => rfl
  have D40 : Df l.prog w K mg base 2 "_law_long" ["_law_deck_here"] spLong := .of g40 F40 (ok_l_long F40 M D39) fun _ _ _ _ _ _ us hl => match us, hl with | [_], _ => rfl
  have D41 : Df l.prog w K mg base 2 "_law_ties" ["_law_deck_here", "_law_many", "_law_most"] spLTies := .of g41 F41 (ok_l_ties F41 M D39) fun _ _ _ _ _ _ us hl => match us, hl with | [_, _, _], _ => rfl
  have D42 : Df l.prog w K mg base 2 "_law_shuffled" ["_law_deck_here", "_law_many"] spShuf := .of g42 F42 (ok_l_shuffled F42 M D39) fun _ _ _ _ _ _ us hl => match us, hl with | [_, _], _ => rfl
  have D43 : Df l.prog w K mg base 2 "_law_weighed" ["_law_deck_here", "_law_ties_here"] spWeighed := .of g43 F43 (ok_l_weighed F43 M D39) fun _ _ _ _ _ _ us hl => match us, hl with | [_, _], _ => rfl
  have D44 : Df l.prog w K mg base 56 "_law_least" ["_law_web", "_law_weights"] (spLst88 [P9, P16, P17, P18, P22, P24, P27, P28, P29]) := .of g44 F44 (ok_l_least F44 M D21.df D16 D15 D37.df D33) fun _ _ _ _ _ _ us hl => match us, hl with | [_, _], _ => rfl
  have D45 : Df l.prog w K mg base 3 "_law_both" ["_law_deck_here", "_law_one", "_law_other", "_law_mine", "_law_theirs"] spBoth := .of g45 F45 (ok_l_both F45 M D42) fun _ _ _ _ _ _ us hl => match us, hl with | [_, _, _, _, _], _ => rfl
  have D46 : Df l.prog w K mg base 57 "_law_both_right" ["_law_deck_here", "_law_one", "_law_other", "_law_mine", "_law_theirs", "_law_least_here"] (spBothR [P9, P16, P17, P18, P22, P24, P27, P28, P29]) := .of g46 F46 (ok_l_both_right F46 M m_sorted D45 D44 D21.df D15 D16) fun _ _ _ _ _ _ us hl => match us, hl with | [_, _, _, _, _, _], _ => rfl
  have D47 : Df l.prog w K mg base 3 "_law_more" ["_law_deck_here", "_law_web", "_law_weights"] spMore := .of g47 F47 (ok_l_more F47 M D40 D39) fun _ _ _ _ _ _ us hl => match us, hl with | [_, _, _], _ => rfl
  exact ok_law F48 M D38 D39 D41 D43 D44 D46 D47 D37.df D33
end
end FF
open PySem PySem.W PyProof.Rows
set_option maxRecDepth 100000 in
set_option maxHeartbeats 0 in
theorem PySem.Challenge.cw_friendfoe_k88_whole_mends_put_together_holds : PySem.Challenge.rw_friendfoe_k88_whole_mends_put_together.Holds := by
  w_on; o_law; k_head; (case hw => w_witness2)
  k_fill
  refine FF.walk_tabs (l := PySem.Challenge.rw_friendfoe_k88_whole_mends_put_together) (n := 63) (k := 58) (x := "_law_script") rfl (by decide) rfl ⟨rfl, by decide, by decide⟩ (fun w h Y => PySem.W.kIn_of Y) ?F
  case F =>
    intro w mg fa h KX G hmg tabs
    refine' FF.law_at KX G hmg (fun fy => tabs "are_rising_below" fy ?r9) (fun fy => tabs "mend_weight" fy ?r16) (fun fy => tabs "odd_parts" fy ?r17) (fun fy => tabs "small_odd_parts" fy ?r18) (fun fy => tabs "are_unlike_below" fy ?r22) (fun fy => tabs "ring_holds" fy ?r24) (fun fy => tabs "is_ring_row" fy ?r27) (fun fy => tabs "rings_show" fy ?r28) (fun fy => tabs "is_split_row" fy ?r29) ?a0 ?a1 ?a2 ?a3 ?a4 ?a5 ?a6 ?a7 ?a8 ?a9 ?a10 ?a11 ?a12 ?a13 ?a14 ?a15 ?a16 ?a17 ?a18 ?a19 ?a20 ?a21 ?a22 ?a23 ?a24 ?a25 ?a26 ?a27 ?a28 ?a29 ?a30 ?a31 ?a32 ?a33 ?a34 ?a35 ?a36 ?a37 ?a38 ?a39 ?a40 ?a41 ?a42 ?a43 ?a44 ?a45 ?a46 ?a47 ?a48 ?z0 ?z1 ?z2 ?z3 ?z4 ?z5 ?z6 ?z7 ?z8 ?z9 ?z10 ?z11 ?z12 ?z13 ?z14 ?z15 ?n0
    (case r9 => rfl)
    (case r16 => rfl)
    (case r17 => rfl)
    (case r18 => rfl)
    (case r22 => rfl)
    (case r24 => rfl)
    (case r27 => rfl)
    (case r28 => rfl)
    (case r29 => rfl)
    (case a0 => refine' FF.at_mk ?p1 ?p2 ?p3 ?p4; (case p1 => k_is); (case p2 => k_is); (case p3 => k_is); (case p4 => k_is))
    (case a1 => refine' FF.at_mk ?p1 ?p2 ?p3 ?p4; (case p1 => k_is); (case p2 => k_is); (case p3 => k_is); (case p4 => k_is))
    (case a2 => refine' FF.at_mk ?p1 ?p2 ?p3 ?p4; (case p1 => k_is); (case p2 => k_is); (case p3 => k_is); (case p4 => k_is))
    (case a3 => refine' FF.at_mk ?p1 ?p2 ?p3 ?p4; (case p1 => k_is); (case p2 => k_is); (case p3 => k_is); (case p4 => k_is))
    (case a4 => refine' FF.at_mk ?p1 ?p2 ?p3 ?p4; (case p1 => k_is); (case p2 => k_is); (case p3 => k_is); (case p4 => k_is))
    (case a5 => refine' FF.at_mk ?p1 ?p2 ?p3 ?p4; (case p1 => k_is); (case p2 => k_is); (case p3 => k_is); (case p4 => k_is))
    (case a6 => refine' FF.at_mk ?p1 ?p2 ?p3 ?p4; (case p1 => k_is); (case p2 => k_is); (case p3 => k_is); (case p4 => k_is))
    (case a7 => refine' FF.at_mk ?p1 ?p2 ?p3 ?p4; (case p1 => k_is); (case p2 => k_is); (case p3 => k_is); (case p4 => k_is))
    (case a8 => refine' FF.at_mk ?p1 ?p2 ?p3 ?p4; (case p1 => k_is); (case p2 => k_is); (case p3 => k_is); (case p4 => k_is))
    (case a9 => refine' FF.atC_mk ?p1 ?p2 ?p3 ?p4 ?p5 ?p6 ?p7 ?p8 ?p9 ?p10 ?p11 ?p12 ?p13; (case p1 => k_is); (case p2 => k_is); (case p3 => k_is); (case p4 => k_is); (case p5 => k_is); (case p6 => rfl); (case p7 => rfl); (case p8 => rfl); (case p9 => rfl); (case p10 => rfl); (case p11 => rfl); (case p12 => decide); (case p13 => rfl))
    (case a10 => refine' FF.at_mk ?p1 ?p2 ?p3 ?p4; (case p1 => k_is); (case p2 => k_is); (case p3 => k_is); (case p4 => k_is))
    (case a11 => refine' FF.at_mk ?p1 ?p2 ?p3 ?p4; (case p1 => k_is); (case p2 => k_is); (case p3 => k_is); (case p4 => k_is))
    (case a12 => refine' FF.at_mk ?p1 ?p2 ?p3 ?p4; (case p1 => k_is); (case p2 => k_is); (case p3 => k_is); (case p4 => k_is))
    (case a13 => refine' FF.at_mk ?p1 ?p2 ?p3 ?p4; (case p1 => k_is); (case p2 => k_is); (case p3 => k_is); (case p4 => k_is))
    (case a14 => refine' FF.at_mk ?p1 ?p2 ?p3 ?p4; (case p1 => k_is); (case p2 => k_is); (case p3 => k_is); (case p4 => k_is))
    (case a15 => refine' FF.at_mk ?p1 ?p2 ?p3 ?p4; (case p1 => k_is); (case p2 => k_is); (case p3 => k_is); (case p4 => k_is))
    (case a16 => refine' FF.atC_mk ?p1 ?p2 ?p3 ?p4 ?p5 ?p6 ?p7 ?p8 ?p9 ?p10 ?p11 ?p12 ?p13; (case p1 => k_is); (case p2 => k_is); (case p3 => k_is); (case p4 => k_is); (case p5 => k_is); (case p6 => rfl); (case p7 => rfl); (case p8 => rfl); (case p9 => rfl); (case p10 => rfl); (case p11 => rfl); (case p12 => decide); (case p13 => rfl))
    (case a17 => refine' FF.atC_mk ?p1 ?p2 ?p3 ?p4 ?p5 ?p6 ?p7 ?p8 ?p9 ?p10 ?p11 ?p12 ?p13; (case p1 => k_is); (case p2 => k_is); (case p3 => k_is); (case p4 => k_is); (case p5 => k_is); (case p6 => rfl); (case p7 => rfl); (case p8 => rfl); (case p9 => rfl); (case p10 => rfl); (case p11 => rfl); (case p12 => decide); (case p13 => rfl))
    (case a18 => refine' FF.atC_mk ?p1 ?p2 ?p3 ?p4 ?p5 ?p6 ?p7 ?p8 ?p9 ?p10 ?p11 ?p12 ?p13; (case p1 => k_is); (case p2 => k_is); (case p3 => k_is); (case p4 => k_is); (case p5 => k_is); (case p6 => rfl); (case p7 => rfl); (case p8 => rfl); (case p9 => rfl); (case p10 => rfl); (case p11 => rfl); (case p12 => decide); (case p13 => rfl))
    (case a19 => refine' FF.at_mk ?p1 ?p2 ?p3 ?p4; (case p1 => k_is); (case p2 => k_is); (case p3 => k_is); (case p4 => k_is))
    (case a20 => refine' FF.at_mk ?p1 ?p2 ?p3 ?p4; (case p1 => k_is); (case p2 => k_is); (case p3 => k_is); (case p4 => k_is))
    (case a21 => refine' FF.atD_mk ?p1 ?p2 ?p3 ?p4 ?p5 ?p6 ?p7 ?p8; (case p1 => k_is); (case p2 => k_is); (case p3 => k_is); (case p4 => k_is); (case p5 => k_is); (case p6 => rfl); (case p7 => exact .cons rfl .nil); (case p8 => exact fun z => nomatch z))
    (case a22 => refine' FF.atC_mk ?p1 ?p2 ?p3 ?p4 ?p5 ?p6 ?p7 ?p8 ?p9 ?p10 ?p11 ?p12 ?p13; (case p1 => k_is); (case p2 => k_is); (case p3 => k_is); (case p4 => k_is); (case p5 => k_is); (case p6 => rfl); (case p7 => rfl); (case p8 => rfl); (case p9 => rfl); (case p10 => rfl); (case p11 => rfl); (case p12 => decide); (case p13 => rfl))
    (case a23 => refine' FF.at_mk ?p1 ?p2 ?p3 ?p4; (case p1 => k_is); (case p2 => k_is); (case p3 => k_is); (case p4 => k_is))
    (case a24 => refine' FF.atC_mk ?p1 ?p2 ?p3 ?p4 ?p5 ?p6 ?p7 ?p8 ?p9 ?p10 ?p11 ?p12 ?p13; (case p1 => k_is); (case p2 => k_is); (case p3 => k_is); (case p4 => k_is); (case p5 => k_is); (case p6 => rfl); (case p7 => rfl); (case p8 => rfl); (case p9 => rfl); (case p10 => rfl); (case p11 => rfl); (case p12 => decide); (case p13 => rfl))
    (case a25 => refine' FF.at_mk ?p1 ?p2 ?p3 ?p4; (case p1 => k_is); (case p2 => k_is); (case p3 => k_is); (case p4 => k_is))
    (case a26 => refine' FF.at_mk ?p1 ?p2 ?p3 ?p4; (case p1 => k_is); (case p2 => k_is); (case p3 => k_is); (case p4 => k_is))
    (case a27 => refine' FF.atC_mk ?p1 ?p2 ?p3 ?p4 ?p5 ?p6 ?p7 ?p8 ?p9 ?p10 ?p11 ?p12 ?p13; (case p1 => k_is); (case p2 => k_is); (case p3 => k_is); (case p4 => k_is); (case p5 => k_is); (case p6 => rfl); (case p7 => rfl); (case p8 => rfl); (case p9 => rfl); (case p10 => rfl); (case p11 => rfl); (case p12 => decide); (case p13 => rfl))
    (case a28 => refine' FF.atC_mk ?p1 ?p2 ?p3 ?p4 ?p5 ?p6 ?p7 ?p8 ?p9 ?p10 ?p11 ?p12 ?p13; (case p1 => k_is); (case p2 => k_is); (case p3 => k_is); (case p4 => k_is); (case p5 => k_is); (case p6 => rfl); (case p7 => rfl); (case p8 => rfl); (case p9 => rfl); (case p10 => rfl); (case p11 => rfl); (case p12 => decide); (case p13 => rfl))
    (case a29 => refine' FF.atC_mk ?p1 ?p2 ?p3 ?p4 ?p5 ?p6 ?p7 ?p8 ?p9 ?p10 ?p11 ?p12 ?p13; (case p1 => k_is); (case p2 => k_is); (case p3 => k_is); (case p4 => k_is); (case p5 => k_is); (case p6 => rfl); (case p7 => rfl); (case p8 => rfl); (case p9 => rfl); (case p10 => rfl); (case p11 => rfl); (case p12 => decide); (case p13 => rfl))
    (case a30 => refine' FF.at_mk ?p1 ?p2 ?p3 ?p4; (case p1 => k_is); (case p2 => k_is); (case p3 => k_is); (case p4 => k_is))
    (case a31 => refine' FF.at_mk ?p1 ?p2 ?p3 ?p4; (case p1 => k_is); (case p2 => k_is); (case p3 => k_is); (case p4 => k_is))
    (case a32 => refine' FF.at_mk ?p1 ?p2 ?p3 ?p4; (case p1 => k_is); (case p2 => k_is); (case p3 => k_is); (case p4 => k_is))
    (case a33 => refine' FF.at_mk ?p1 ?p2 ?p3 ?p4; (case p1 => k_is); (case p2 => k_is); (case p3 => k_is); (case p4 => k_is))
    (case a34 => refine' FF.at_mk ?p1 ?p2 ?p3 ?p4; (case p1 => k_is); (case p2 => k_is); (case p3 => k_is); (case p4 => k_is))
    (case a35 => refine' FF.at_mk ?p1 ?p2 ?p3 ?p4; (case p1 => k_is); (case p2 => k_is); (case p3 => k_is); (case p4 => k_is))
    (case a36 => refine' FF.at_mk ?p1 ?p2 ?p3 ?p4; (case p1 => k_is); (case p2 => k_is); (case p3 => k_is); (case p4 => k_is))
    (case a37 => refine' FF.atD_mk ?p1 ?p2 ?p3 ?p4 ?p5 ?p6 ?p7 ?p8; (case p1 => k_is); (case p2 => k_is); (case p3 => k_is); (case p4 => k_is); (case p5 => k_is); (case p6 => rfl); (case p7 => exact .cons rfl .nil); (case p8 => exact fun z => nomatch z))
    (case a38 => refine' FF.at_mk ?p1 ?p2 ?p3 ?p4; (case p1 => k_is); (case p2 => k_is); (case p3 => k_is); (case p4 => k_is))
    (case a39 => refine' FF.at_mk ?p1 ?p2 ?p3 ?p4; (case p1 => k_is); (case p2 => k_is); (case p3 => k_is); (case p4 => k_is))
    (case a40 => refine' FF.at_mk ?p1 ?p2 ?p3 ?p4; (case p1 => k_is); (case p2 => k_is); (case p3 => k_is); (case p4 => k_is))
    (case a41 => refine' FF.at_mk ?p1 ?p2 ?p3 ?p4; (case p1 => k_is); (case p2 => k_is); (case p3 => k_is); (case p4 => k_is))
    (case a42 => refine' FF.at_mk ?p1 ?p2 ?p3 ?p4; (case p1 => k_is); (case p2 => k_is); (case p3 => k_is); (case p4 => k_is))
    (case a43 => refine' FF.at_mk ?p1 ?p2 ?p3 ?p4; (case p1 => k_is); (case p2 => k_is); (case p3 => k_is); (case p4 => k_is))
    (case a44 => refine' FF.at_mk ?p1 ?p2 ?p3 ?p4; (case p1 => k_is); (case p2 => k_is); (case p3 => k_is); (case p4 => k_is))
    (case a45 => refine' FF.at_mk ?p1 ?p2 ?p3 ?p4; (case p1 => k_is); (case p2 => k_is); (case p3 => k_is); (case p4 => k_is))
    (case a46 => refine' FF.at_mk ?p1 ?p2 ?p3 ?p4; (case p1 => k_is); (case p2 => k_is); (case p3 => k_is); (case p4 => k_is))
    (case a47 => refine' FF.at_mk ?p1 ?p2 ?p3 ?p4; (case p1 => k_is); (case p2 => k_is); (case p3 => k_is); (case p4 => k_is))
    (case a48 => refine' FF.at_mk ?p1 ?p2 ?p3 ?p4; (case p1 => k_is); (case p2 => k_is); (case p3 => k_is); (case p4 => k_is))
    (case z0 => k_is)
    (case z1 => k_is)
    (case z2 => k_is)
    (case z3 => k_is)
    (case z4 => k_is)
    (case z5 => k_is)
    (case z6 => k_is)
    (case z7 => k_is)
    (case z8 => k_is)
    (case z9 => k_is)
    (case z10 => k_is)
    (case z11 => k_is)
    (case z12 => k_is)
    (case z13 => k_is)
    (case z14 => k_is)
    (case z15 => k_is)
    (case n0 => first | k_is | rfl | kernel_rfl)
