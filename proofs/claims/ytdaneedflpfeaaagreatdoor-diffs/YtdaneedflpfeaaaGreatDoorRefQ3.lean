import Derived.Test.YtdaneedflpfeaaaGreatDoorRefQ1
import Derived.Test.YtdaneedflpfeaaaGreatDoorPatF
import Derived.Test.YtdaneedflpfeaaaGreatDoorRefShow
namespace Go.Proofs.YtdaneedflpfeaaaGreatDoor
set_option maxRecDepth 100000
open Go.RowKit

set_option maxHeartbeats 400000 in
theorem beginsW_any (s t : ByteArray) (i : Int) (w : World) (hs : s.size ≤ 1000000) (ht : t.size ≤ 1000000) (h0 : 0 ≤ i) (h1 : i ≤ 1000000) :
    Calls Tryz.prog 67 #[.string s, .int .i64 i, .string t] w fun e w' => e = .returned (.bool (beginsB s i.toNat t)) ∧ w' = w := by
  obtain ⟨k, rfl⟩ := Int.eq_ofNat_of_zero_le h0
  rw [Int.toNat_natCast]
  by_cases hlt : k + t.size ≤ s.size
  · have HF : Hid (beginsB s k t = ((s.extract k (k + t.size)).toList == t.toList)) := by show beginsB s k t = _; simp [beginsB, hlt]
    have hkt : ((k : Int) + (t.size : Int)).toNat = k + t.size := by omega
    go_enter Tryz.func67, Tryz.ntmps67
    go_wp2
    go_ret
    exact ⟨ret_bool (by rw [unhide HF]), rfl⟩
  · have HF : Hid (beginsB s k t = false) := by show beginsB s k t = _; simp [beginsB, hlt]
    go_enter Tryz.func67, Tryz.ntmps67
    go_wp2
    go_ret
    exact ⟨ret_bool (by rw [unhide HF]), rfl⟩

theorem plain_no : ∀ q r : Fin 16, plainB ((hexD q.val).toNat : Int) = true ∧ hexV ((hexD q.val).toNat : Int) * 16 + hexV ((hexD r.val).toNat : Int) = (16 * q.val + r.val : Nat) := by decide
theorem esc_unB {c : UInt8} {r : List UInt8} (h : escB c <+: r) : unB r = (c, (escB c).length) := by
  obtain ⟨t, rfl⟩ := h
  have hc := c.toNat_lt
  cases hp : plainB (c.toNat : Int) with
  | true =>
    rw [show escB c = [c] from by rw [escB, if_pos hp]]
    exact unB_plain t hp
  | false =>
    rw [show escB c = [92, 120, hexD (c.toNat / 16), hexD (c.toNat % 16)] from by rw [escB, hp]; rfl]
    have e := (plain_no ⟨c.toNat / 16, by omega⟩ ⟨c.toNat % 16, by omega⟩).2
    have h1 := hexD_V ⟨c.toNat / 16, by omega⟩
    have h2 := hexD_V ⟨c.toNat % 16, by omega⟩
    simp only at e h1 h2
    have ec : (16 * (c.toNat / 16) + c.toNat % 16 : Nat) = c.toNat := by omega
    rw [ec] at e
    show unB (92 :: 120 :: hexD (c.toNat / 16) :: hexD (c.toNat % 16) :: t) = _
    rw [unB_full t (by decide), if_pos ⟨⟨rfl, rfl⟩, ⟨by omega, by omega⟩, by rw [e]; exact hp⟩, e]
    simp
theorem unB_esc {r : List UInt8} (h : (unB r).2 ≠ 0) : escB (unB r).1 <+: r ∧ (escB (unB r).1).length = (unB r).2 := by
  match r, h with
  | [], h => exact absurd rfl h
  | a :: t, h =>
    cases hp : plainB (a.toNat : Int) with
    | true =>
      rw [unB_plain t hp]
      have e : escB a = [a] := by rw [escB, if_pos hp]
      simp only [e]
      exact ⟨⟨t, rfl⟩, rfl⟩
    | false =>
      match t, h with
      | [], h => exact absurd (by rw [unB_short (by simp) (fun _ _ e => by cases e; exact hp)]) h
      | [_], h => exact absurd (by rw [unB_short (by simp) (fun _ _ e => by cases e; exact hp)]) h
      | [_, _], h => exact absurd (by rw [unB_short (by simp) (fun _ _ e => by cases e; exact hp)]) h
      | b :: x :: y :: t, h =>
        rw [unB_full t hp] at h ⊢
        split at h
        · rename_i hc
          rw [if_pos hc]
          obtain ⟨⟨rfl, rfl⟩, ⟨hx, hy⟩, hpl⟩ := hc
          have bx := hexV_bd (x.toNat : Int)
          have by_ := hexV_bd (y.toNat : Int)
          obtain ⟨q, hq⟩ := Int.eq_ofNat_of_zero_le hx
          obtain ⟨k, hk⟩ := Int.eq_ofNat_of_zero_le hy
          have dx := hexV_D hq
          have dy := hexV_D hk
          rw [hq, hk] at hpl ⊢
          rw [hq] at bx
          rw [hk] at by_
          have et : ((q : Int) * 16 + (k : Int)).toNat = q * 16 + k := by omega
          have en : (UInt8.ofNat (q * 16 + k)).toNat = q * 16 + k := by rw [UInt8.toNat_ofNat']; omega
          have ee : escB (UInt8.ofNat (q * 16 + k)) = [92, 120, x, y] := by
            rw [escB, en, show ((q * 16 + k : Nat) : Int) = (q : Int) * 16 + (k : Int) by omega, hpl, show (q * 16 + k) / 16 = q by omega, show (q * 16 + k) % 16 = k by omega, dx, dy]; rfl
          simp only [et, ee]
          exact ⟨⟨t, rfl⟩, rfl⟩
        · exact absurd rfl h
theorem begins_pre (r p : List UInt8) : beginsB (mk r) 0 (mk p) = true ↔ p <+: r := by
  rw [beginsB, Bool.and_eq_true, decide_eq_true_eq, beq_iff_eq, ext_mk, mk_toList, mk_toList, mk_size, mk_size]
  simp only [Nat.zero_add, Nat.sub_zero]
  show _ ∧ (r.drop 0).take p.length = p ↔ _
  rw [List.drop_zero]
  constructor
  · rintro ⟨_, h⟩; rw [← h]; exact List.take_prefix _ _
  · intro h; exact ⟨h.length_le, (List.prefix_iff_eq_take.1 h).symm⟩

def rlabA : Option (Bool × List UInt8) → Array Value
  | some (b, t) => #[.int .i64 0, .bool (!b), .string (mk t)]
  | none => #[.int .i64 0, .bool false, .string ⟨#[]⟩]
theorem Tryz.infoRowS : (Tryz.prog.info? 51).map (·.size) = some 3 := by kernel_rfl
theorem rw_all1 (d : Int) (b : Bool) (t : ByteArray) : (#[Value.int .i64 d, .bool b, .string t].all fun x => x.oneCell') = true := by simp [Value.oneCell']
theorem rw_cells3 {w : World} {b : Nat} {i : Bool} {t : ByteArray} {d : Int} {T : TypeId} (h : w.heap[b]? = some (.cells #[.int .i64 d, .bool i, .string t] T (0, 0))) :
    w.cell? ⟨b, 0, none⟩ = some (.int .i64 d) ∧ w.cell? ⟨b, 1, none⟩ = some (.bool i) ∧ w.cell? ⟨b, 2, none⟩ = some (.string t) ∧ ∀ j, w.frozen? ⟨b, j, none⟩ = false := by
  refine ⟨?_, ?_, ?_, fun j => frozen_of_row w b j _ T h⟩ <;> (rw [cell_of_row w b _ _ T _ h]; rfl)
theorem rset3 {w : World} {b : Nat} {c0 c1 c2 v : Value} {T : TypeId} (h : w.heap[b]? = some (.cells #[c0, c1, c2] T (0, 0))) : (w.setCell ⟨b, 2, none⟩ v).heap[b]? = some (.cells #[c0, c1, v] T (0, 0)) := by
  have := heap_setCell_same _ b 2 _ T v h
  rw [show (#[c0, c1, c2].setIfInBounds 2 v) = #[c0, c1, v] from by rw [← Array.toList_inj]; simp] at this
  exact this

def strOf : Value → ByteArray
  | .string s => s
  | _ => ⟨#[]⟩
set_option maxHeartbeats 12800000 in
theorem labelled_any (s : ByteArray) (w : World) (hs : s.size ≤ 100000) :
    Calls Tryz.prog 45 #[.string s] w fun e w' => e = .returned (.tuple #[.agg (rlabA (labV s.data.toList)), .bool (labV s.data.toList).isSome]) ∧ Below w.heap.size w w' := by
  by_cases he : s.size = 0
  · have hse := size0 he
    subst hse
    go_enter Tryz.func45, Tryz.ntmps45
    go_wp2_with fail
    refine bodyPost_ret (results_row_tmp rfl _ _ w.heap.size _ _ (0, 0) _ rfl (heap_alloc_new _ _) Tryz.underlying51 rfl Tryz.infoRowS) rfl ?_
    exact ⟨rfl, (Below.refl _ _).alloc (Nat.le_refl _) _⟩
  have hpos : 0 < s.size := by omega
  have hz0 : ((s.size : Int) == 0) = false := by rw [beq_eq_false_iff_ne]; omega
  have hD := drop_at hpos
  rw [List.drop_zero] at hD
  have HX := hide (rest_mk (s := s))
  by_cases h64 : s[0] = 64
  · have h64' : ((s[0].toNat : Int) == 64) = true := by rw [h64]; rfl
    have HV : Hid (labV s.data.toList = some (true, s.data.toList.drop 1)) := by show _ = _; rw [hD, labV, if_pos h64]; rfl
    clear hD h64
    go_enter Tryz.func45, Tryz.ntmps45
    go_wp2_with fail
    refine bodyPost_ret (results_row_tmp rfl _ _ w.heap.size _ _ (0, 0) _ rfl (heap_alloc_new _ _) Tryz.underlying51 rfl Tryz.infoRowS) rfl ?_
    rw [unhide HV]
    exact ⟨by rw [unhide HX]; rfl, (Below.refl _ _).alloc (Nat.le_refl _) _⟩
  have h64' : ((s[0].toNat : Int) == 64) = false := u8_ne h64
  by_cases h39 : s[0] = 39
  · have h39' : ((s[0].toNat : Int) != 39) = false := by rw [h39]; rfl
    have HV : Hid (labV s.data.toList = (unL (s.data.toList.drop 1)).map fun o => (false, o)) := by show _ = _; rw [hD, labV, if_neg h64, if_pos h39]; rfl
    clear hD h64 h39
    go_enter Tryz.func45, Tryz.ntmps45
    go_wp2_with fail
    have hbd0 : (s.extract 1 s.size).size ≤ 100000 := by rw [ByteArray.size_extract]; omega
    go_loopw [0, 3, 5, 6, 7] (fun v0 _ _ _ _ wr => ∃ (r o : List UInt8) (sb ob : ByteArray), v0 = .string sb ∧ Hid (sb = mk r) ∧ sb.size + ob.size ≤ 100000 ∧ Hid (ob = mk o) ∧ Hid ((unL r).map (o ++ ·) = unL (s.data.toList.drop 1)) ∧ w.heap.size + 1 < wr.heap.size ∧ Hid (wr.heap[w.heap.size]? = some (.cells #[.int .i64 0, .bool false, .string ⟨#[]⟩] 51 (0, 0))) ∧ Hid (wr.heap[w.heap.size + 1]? = some (.cells #[.int .i64 0, .bool true, .string ob] 51 (0, 0))) ∧ Below w.heap.size w wr) (fun v0 _ _ _ _ _ => (strOf v0).size)
    case atStart => exact ⟨s.data.toList.drop 1, [], s.extract 1 s.size, ⟨#[]⟩, rfl, HX, hbd0, rfl, by show _ = _; simp, by simp, heap_alloc2_old _ _ _, heap_alloc2_new _ _ _, ((Below.refl _ _).alloc (Nat.le_refl _) _).alloc (by simp) _⟩
    case round =>
      clear HX hbd0
      obtain ⟨r, o, sb, ob, rfl, HSB, hsz, HOB, HE, hlt, HK2, HK4, hB⟩ := hrel
      have HB := hide hB
      have hszB := hB.size
      obtain ⟨p0, p1, p2, p3⟩ := rw_cells3 (unhide HK4)
      clear hB
      by_cases hemp : sb.size = 0
      · have hse := size0 hemp
        subst hse
        have HR0 : Hid (r = []) := by
          show r = []
          have := congrArg ByteArray.size (unhide HSB)
          rw [mk_size] at this
          exact List.eq_nil_of_length_eq_zero this.symm
        have HR : Hid (labV s.data.toList = some (false, o)) := by
          show _ = _
          rw [unhide HV, ← unhide HE, unhide HR0, unL_nil]; simp
        clear HE HV hemp
        go_wp2_with (first
          | (refine wpList_store_row rfl 51 _ _ rfl w.heap.size #[.int .i64 0, .bool true, .string ob] rfl rfl 51 _ (unhide HK2) Tryz.infoRowS rfl (rw_all1 _ _ _) ?_)
          | fail)
        refine bodyPost_ret (results_row_tmp rfl _ _ w.heap.size _ #[.int .i64 0, .bool true, .string ob] (0, 0) _ rfl (setRow_heap _ _ _ _ _ _ (unhide HK2)) Tryz.underlying51 rfl Tryz.infoRowS) rfl ?_
        rw [unhide HR, unhide HOB]
        exact ⟨rfl, below_setRow (unhide HB) (Nat.le_refl _) _⟩
      · have hne := toList_ne (s := sb) (by omega)
        have hne' : (sb.toList != []) = true := by simp only [bne, hne]; rfl
        have HRN : Hid (r ≠ []) := by
          show r ≠ []
          intro e
          have := unhide HSB
          rw [e] at this
          rw [this] at hemp
          exact hemp rfl
        have hnn : Hid (sb.toList ≠ []) := by show _ ≠ _; intro e; rw [e] at hne; cases hne
        clear p0 p1 p2 p3
        go_wp2_with fail
        go_loopw [0, 5, 6, 7] (fun v0 fd ci _ wx => ∃ (c : Nat) (sb2 ob2 : ByteArray) (b : Bool), c ≤ 256 ∧ ci = .int .i64 c ∧ fd = .bool b ∧ v0 = .string sb2 ∧ w.heap.size + 1 < wx.heap.size ∧ Hid (wx.heap[w.heap.size]? = some (.cells #[.int .i64 0, .bool false, .string ⟨#[]⟩] 51 (0, 0))) ∧ Hid (wx.heap[w.heap.size + 1]? = some (.cells #[.int .i64 0, .bool true, .string ob2] 51 (0, 0))) ∧ Below w.heap.size w wx ∧ Hid ((b = false ∧ sb2 = sb ∧ ob2 = ob ∧ ∀ j, j < c → ¬ escB (UInt8.ofNat j) <+: r) ∨ (b = true ∧ (unB r).2 ≠ 0 ∧ sb2 = mk (r.drop (unB r).2) ∧ ob2 = mk (o ++ [(unB r).1]) ∧ sb2.size + ob2.size ≤ 100000 ∧ sb2.size < sb.size))) (fun _ _ ci _ _ => 256 - (intOf ci).toNat)
        case atStart => exact ⟨0, sb, ob, false, by omega, rfl, rfl, rfl, hlt, HK2, HK4, unhide HB, .inl ⟨rfl, rfl, rfl, fun j hj => by omega⟩⟩
        case round =>
          clear HK2 HK4 HB hszB hlt hne hne'
          obtain ⟨c, sb2, ob2, b, hc, rfl, rfl, rfl, hlt, HK2, HK4, hB, HD⟩ := hrel
          have HB := hide hB
          have hszB := hB.size
          clear hB
          cases b with
          | true =>
            have hdd : (unB r).2 ≠ 0 ∧ sb2 = mk (r.drop (unB r).2) ∧ ob2 = mk (o ++ [(unB r).1]) ∧ sb2.size + ob2.size ≤ 100000 ∧ sb2.size < sb.size := by
              rcases unhide HD with ⟨h, _⟩ | ⟨_, h⟩
              · cases h
              · exact h
            obtain ⟨d1, d2, d3, d4, d5⟩ := hdd
            have HE2 : Hid ((unL (r.drop (unB r).2)).map ((o ++ [(unB r).1]) ++ ·) = unL (s.data.toList.drop 1)) := by
              show _ = _
              rw [← unhide HE, unL_yes d1]
              simp only [Option.map_map, Function.comp_def, List.append_assoc, List.singleton_append]
            have H2 := hide d2
            have H3 := hide d3
            clear HD d1 d2 d3 HE
            by_cases hc6 : c < 256
            · go_wp2_with fail
              go_roundw
              case rel => exact ⟨r.drop (unB r).2, o ++ [(unB r).1], sb2, ob2, rfl, H2, d4, H3, HE2, hlt, HK2, HK4, unhide HB⟩
              case measure => simp [strOf]; omega
            · go_wp2_with fail
              go_roundw
              case rel => exact ⟨r.drop (unB r).2, o ++ [(unB r).1], sb2, ob2, rfl, H2, d4, H3, HE2, hlt, HK2, HK4, unhide HB⟩
              case measure => simp [strOf]; omega
          | false =>
            have hdd : sb2 = sb ∧ ob2 = ob ∧ ∀ j, j < c → ¬ escB (UInt8.ofNat j) <+: r := by
              rcases unhide HD with ⟨_, h⟩ | ⟨h, _⟩
              · exact h
              · cases h
            obtain ⟨rfl, rfl, hno⟩ := hdd
            have HNO := hide hno
            clear HD hno
            by_cases hc6 : c < 256
            · have hen : (UInt8.ofNat c).toNat = c := by rw [UInt8.toNat_ofNat']; omega
              have HW : Hid (∀ wx, Calls Tryz.prog 71 #[.int .u8 (c : Int)] wx fun e w' => e = .returned (.string (mk (escB (UInt8.ofNat c)))) ∧ Below wx.heap.size wx w') := fun wx => by
                have := refWritten_any (UInt8.ofNat c) wx
                rw [hen] at this
                exact this
              have hwc := IntKind.wrap_u8 (c : Int)
              have hwu : IntKind.u8.wrap (c : Int) = (c : Int) := by omega
              have hel : (mk (escB (UInt8.ofNat c))).size ≤ 4 := by rw [mk_size]; exact escB_len _
              have HBG : Hid (∀ wx, Calls Tryz.prog 67 #[.string sb2, .int .i64 0, .string (mk (escB (UInt8.ofNat c)))] wx fun e w' => e = .returned (.bool (beginsB sb2 0 (mk (escB (UInt8.ofNat c))))) ∧ w' = wx) := fun wx => beginsW_any sb2 _ 0 wx (by omega) (by omega) (by omega) (by omega)
              have HPRE : Hid (beginsB sb2 0 (mk (escB (UInt8.ofNat c))) = true ↔ escB (UInt8.ofNat c) <+: r) := by show _ ↔ _; rw [unhide HSB]; exact begins_pre r _
              cases hbg : beginsB sb2 0 (mk (escB (UInt8.ofNat c))) with
              | false =>
                rw [hbg] at HBG
                have HNO2 : Hid (∀ j, j < c + 1 → ¬ escB (UInt8.ofNat j) <+: r) := fun j hj => by
                  rcases Nat.lt_or_ge j c with q | q
                  · exact unhide HNO j q
                  · have : j = c := by omega
                    subst this
                    intro h
                    rw [(unhide HPRE).2 h] at hbg; cases hbg
                clear HPRE hbg hwc HNO
                generalize mk (escB (UInt8.ofNat c)) = eb at *
                go_wp2_with fail
                refine (unhide HW _).mono ?_
                rintro e w1 ⟨rfl, hB1⟩
                have HB1 : Hid (Below w.heap.size w w1) := (unhide HB).trans (hB1.mono hszB)
                have HK2' := hide ((hB1.block _ (by omega)).trans (unhide HK2))
                have HK4' := hide ((hB1.block _ hlt).trans (unhide HK4))
                have hlt1 : w.heap.size + 1 < w1.heap.size := by have := hB1.size; omega
                clear hB1
                go_wp2_with fail
                refine (unhide HBG _).mono ?_
                rintro e w1 ⟨rfl, hw⟩; have hw := hw.symm; subst hw
                go_wp2_with fail
                go_roundw
                case rel => exact ⟨c + 1, sb2, ob2, false, by omega, by go_num, rfl, rfl, hlt1, HK2', HK4', unhide HB1, .inl ⟨rfl, rfl, rfl, unhide HNO2⟩⟩
                case measure => simp [intOf]; omega
              | true =>
                rw [hbg] at HBG
                have hpre := (unhide HPRE).1 hbg
                have hub := esc_unB hpre
                have HUB := hide hub
                have hple := hpre.length_le
                have hrl : r.length = sb2.size := by have := congrArg ByteArray.size (unhide HSB); rw [mk_size] at this; exact this.symm
                have hep : 0 < (escB (UInt8.ofNat c)).length := by unfold escB; split <;> simp
                have hes : (mk (escB (UInt8.ofNat c))).size = (escB (UInt8.ofNat c)).length := mk_size _
                have hnz : Hid ((unB r).2 ≠ 0) := by show _ ≠ _; rw [hub]; show (escB (UInt8.ofNat c)).length ≠ 0; omega
                have HXS : Hid (sb2.extract (escB (UInt8.ofNat c)).length sb2.size = mk (r.drop (unB r).2)) := by
                  show _ = _
                  rw [hub, ext_mk, List.take_of_length_le (by rw [List.length_drop]; exact Nat.le_refl _), unhide HSB]; rfl
                have hxs : (sb2.extract (escB (UInt8.ofNat c)).length sb2.size).size = sb2.size - (escB (UInt8.ofNat c)).length := by rw [ByteArray.size_extract]; omega
                have hle1 : (mk (escB (UInt8.ofNat c))).size ≤ sb2.size := by omega
                have HOC : Hid (ob2 ++ mk [UInt8.ofNat c] = mk (o ++ [(unB r).1])) := by show _ = _; rw [hub, unhide HOB, mk_append]
                have hcs1 : (mk [UInt8.ofNat c]).size = 1 := rfl
                clear HPRE hbg hwc HNO hpre hub
                generalize (escB (UInt8.ofNat c)).length = el at *
                generalize mk (escB (UInt8.ofNat c)) = eb at *
                go_wp2_with fail
                refine (unhide HW _).mono ?_
                rintro e w1 ⟨rfl, hB1⟩
                have HB1 : Hid (Below w.heap.size w w1) := (unhide HB).trans (hB1.mono hszB)
                have HK2' := hide ((hB1.block _ (by omega)).trans (unhide HK2))
                have HK4' := hide ((hB1.block _ hlt).trans (unhide HK4))
                have hlt1 : w.heap.size + 1 < w1.heap.size := by have := hB1.size; omega
                obtain ⟨p0, p1, p2, p3⟩ := rw_cells3 (unhide HK4')
                have hcv : (convert 119 9 (.slice (some ⟨w1.heap.size, 0, none⟩) 1 1)).run Tryz.prog (w1.alloc (.cells #[.int .u8 (c : Int)] 5 (0, 0))) = .ok (.string (mk [UInt8.ofNat c])) (w1.alloc (.cells #[.int .u8 (c : Int)] 5 (0, 0))) := by
                  have := conv_block (w1.alloc (.cells #[.int .u8 (c : Int)] 5 (0, 0))) w1.heap.size 1 [UInt8.ofNat c] (by rw [heap_alloc_new]; simp [u8s, hen])
                  exact this
                generalize mk [UInt8.ofNat c] = cb at *
                clear hB1
                go_wp2_with fail
                refine (unhide HBG _).mono ?_
                rintro e w1 ⟨rfl, hw⟩; have hw := hw.symm; subst hw
                go_wp2_with fail
                go_roundw
                case rel =>
                  refine ⟨c + 1, _, ob2 ++ cb, true, by omega, by go_num, rfl, rfl, ?_, ?_, ?_, ?_, .inr ⟨rfl, unhide hnz, unhide HXS, unhide HOC, ?_, ?_⟩⟩
                  · simp; omega
                  · exact (heap_alloc_old _ _ (by simp; omega)).trans ((heap_setCell_other _ ⟨w.heap.size + 1, 2, none⟩ _ _ (by show w.heap.size ≠ w.heap.size + 1; omega)).trans (unhide HK2'))
                  · exact (heap_alloc_old _ _ (by simp; omega)).trans (rset3 (unhide HK4'))
                  · exact ((unhide HB1).setCell (p := ⟨w.heap.size + 1, 2, none⟩) (by show w.heap.size ≤ w.heap.size + 1; omega) _).alloc (by simp; omega) _
                  · rw [ByteArray.size_append, hcs1, hxs]; omega
                  · rw [hxs]; omega
                case measure => simp [intOf]; omega
            · have HR : Hid (labV s.data.toList = none) := by
                show _ = _
                have hz : (unB r).2 = 0 := by
                  rcases Nat.eq_zero_or_pos (unB r).2 with q | q
                  · exact q
                  · have h1 := (unB_esc (r := r) (by omega)).1
                    have h2 := unhide HNO (unB r).1.toNat (by have := (unB r).1.toNat_lt; omega)
                    rw [UInt8.ofNat_toNat] at h2
                    exact absurd h1 h2
                rw [unhide HV, ← unhide HE, unL_no hz (unhide HRN)]; rfl
              clear HE HV HNO
              go_wp2_with (first
                | (refine wpList_store_row rfl 51 _ _ rfl w.heap.size #[.int .i64 0, .bool false, .string ⟨#[]⟩] rfl rfl 51 _ (unhide HK2) Tryz.infoRowS rfl (rw_all1 _ _ _) ?_)
                | fail)
              refine bodyPost_ret (results_row_tmp rfl _ _ w.heap.size _ #[.int .i64 0, .bool false, .string ⟨#[]⟩] (0, 0) _ rfl (setRow_heap _ _ _ _ _ _ (unhide HK2)) Tryz.underlying51 rfl Tryz.infoRowS) rfl ?_
              rw [unhide HR]
              exact ⟨rfl, below_setRow (unhide HB) (Nat.le_refl _) _⟩
  have h39' : ((s[0].toNat : Int) != 39) = true := by simp only [bne]; have := u8_ne (b := 39) h39; simpa using this
  have HV : Hid (labV s.data.toList = none) := by show _ = _; rw [hD, labV, if_neg h64, if_neg h39]
  clear hD h64 h39 HX
  go_enter Tryz.func45, Tryz.ntmps45
  go_wp2_with fail
  refine bodyPost_ret (results_row_tmp rfl _ _ w.heap.size _ _ (0, 0) _ rfl (heap_alloc_new _ _) Tryz.underlying51 rfl Tryz.infoRowS) rfl ?_
  rw [unhide HV]
  exact ⟨rfl, (Below.refl _ _).alloc (Nat.le_refl _) _⟩

end Go.Proofs.YtdaneedflpfeaaaGreatDoor
