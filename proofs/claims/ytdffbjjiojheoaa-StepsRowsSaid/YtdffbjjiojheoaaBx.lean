import Derived.Test.YtdffbjjiojheoaaBc
-- from Bx
namespace Go.Proofs.Ytdffbjjiojheoaa.Bp
set_option maxRecDepth 100000
open Go.ChangeShapes Go.WideShapes Go.ChangeAt Go.RowKit Go.Proofs.Ytdffbjjiojheoaa.Tn
open Go.ChangeMaps (setBlock heap_setBlock_same heap_setBlock_other)
/-! ### the package's New, its walk -/
set_option maxHeartbeats 8000000 in
theorem new_any (w : World) (ap qp : Option Addr) (ca cq n P : Nat) (al : List Int) (ps : List (Int × Int)) (ha : Byts w ap ca al) (hn : al.length = n) (hps : Prs w qp cq ps) (hP : ps.length = P) (hs : n ≤ 1000000) (hs2 : P ≤ 1000000) :
    Calls Try.prog 80 #[.slice ap n ca, .slice qp P cq] w (NewP w al ps) := by
  have Hn := Lib.hid hn
  have HP := Lib.hid hP
  have HAw := Lib.hid ha
  have HPw := Lib.hid hps
  have w1 : IntKind.i64.wrap ((n : Int) + (P : Int)) = (n : Int) + (P : Int) := IntWalk.i64_in _ (by omega)
  by_cases hsz : n < 1 ∨ 512 < n + P
  · have HD : Hid (newD al ps = (13, [])) := Lib.hid (newD_size (by omega))
    have hd : NewP w al ps (.returned (.tuple #[.pointer none, .int .i64 13])) w := ⟨Below.refl _ _, Or.inl ⟨by rw [HD.out]; decide, by rw [HD.out]⟩⟩
    have Hd := Lib.hid hd
    by_cases h1 : n < 1
    · obtain rfl : n = 0 := by omega
      clear ha hn hps hP hsz h1 hd
      go_enter Try.func80, Try.ntmps80
      go_wp2
      go_ret2
      exact Hd.out
    · have e1 : ((n : Int) == 0) = false := by simp; omega
      have e2 : (n == 0) = false := by simp; omega
      have e3 : decide ((512 : Int) < (n : Int) + (P : Int)) = true := by simp; omega
      clear ha hn hps hP hsz h1 hd
      go_enter Try.func80, Try.ntmps80
      go_wp2
      go_ret2
      exact Hd.out
  have e1 : ((n : Int) == 0) = false := by simp; omega
  have e2 : (n == 0) = false := by simp; omega
  have e3 : decide ((512 : Int) < (n : Int) + (P : Int)) = false := by simp; omega
  have HS : Hid (1 ≤ n ∧ n + P ≤ 512) := Lib.hid (by omega)
  have HNs : Hid (¬ (al.length < 1 ∨ 512 < al.length + ps.length)) := Lib.hid (by omega)
  have HG0 := Lib.hid (Gw.made w)
  have HB0 : Hid (Below w.heap.size w ((w.alloc (.map #[] 0)).alloc (.cells (crow (.slice none 0 0) [] w.heap.size) 148))) := Lib.hid (((Below.refl _ _).alloc (Nat.le_refl _) _).alloc (by simp) _)
  clear ha hn hps hP hsz
  have hmk := @run_makeMap Try.prog
  go_enter Try.func80, Try.ntmps80
  go_upto_region 3 with fail
  go_wp2_with (refine wpList_buildC rfl (.tmp 24) rfl w.heap.size rfl ?_; refine Hid.out ?_)
  refine Lib.hid ?_
  go_upto_region 4 with fail
  refine gen_w (Q := fun w => Code.wp _ _ _ _ w) _ (fun W => Gw w.heap.size (w.heap.size + 1) w.heap.size (w.heap.size + 2) [] [] [] (.slice none 0 0) W ∧ Below w.heap.size w W) ⟨HG0.out, HB0.out⟩ ?_
  clear HG0 HB0 hmk
  rintro W1 ⟨hg1, hb1⟩
  have HG1 := Lib.hid hg1
  have HB1 := Lib.hid hb1
  clear hg1 hb1
  go_wp2
  go_loopw [29] (fun iv wr => ∃ (i : Nat) (sv : Value), i ≤ n ∧ iv = .int .i64 i ∧ (al.take i).Nodup ∧ Gw w.heap.size (w.heap.size + 1) w.heap.size (w.heap.size + 2) (al.take i) [] (one (al.take i)) sv wr ∧ Below w.heap.size w wr) (fun iv _ => n - (intOf iv).toNat)
  case atStart => exact ⟨0, _, by omega, rfl, by simp, by simpa [one] using HG1.out, HB1.out⟩
  case round =>
    clear HG1 HB1
    obtain ⟨i, sv, hi, rfl, hnd, hgw, hbw⟩ := hrel
    have HNd := Lib.hid hnd
    have HGw := Lib.hid hgw
    have HBw := Lib.hid hbw
    clear hnd hgw hbw
    by_cases hil : i < n
    · have hd1 : decide (i < n) = true := by simpa using hil
      have hd2 : decide ((i : Int) < (n : Int)) = true := by simp; omega
      obtain ⟨d, p, e, h8⟩ := HAw.out.at_ i (by rw [Hn.out]; exact hil)
      have hrg := HAw.out.rng (al.getD i 0) (getD_mem (by rw [Hn.out]; exact hil))
      obtain ⟨x, hx⟩ := Int.eq_ofNat_of_zero_le hrg.1
      rw [hx] at h8 hrg
      have HXr : Hid (x < 256) := Lib.hid (by omega)
      have HXx := Lib.hid hx
      have h9 := (HBw.out.cell (block_lt_of_cell h8)).trans h8
      clear h8 hrg hx
      subst e
      go_wp2_with fail
      refine (addByte_any wr w.heap.size (w.heap.size + 1) w.heap.size (w.heap.size + 2) (al.take i) (one (al.take i)) sv x HGw.out HXr.out (by simp [one]) (by have := HS.out; have := Hn.out; simp; omega)).mono ?_
      rintro e w2 ⟨hb2, ⟨hin, rfl⟩ | ⟨hno, rfl, sv2, hg2⟩⟩
      · have HB2 := Lib.hid (HBw.out.trans hb2)
        have HD : Hid (newD al ps = (15, [])) := Lib.hid (newD_dup HNs.out (take_dup (i := i) (by rw [Hn.out]; exact hil) (by rw [HXx.out]; exact hin)))
        clear hb2 hin
        go_wp2
        go_ret2
        exact ⟨HB2.out, Or.inl ⟨by rw [HD.out]; decide, by rw [HD.out]; rfl⟩⟩
      · have HB2 := Lib.hid (HBw.out.trans hb2)
        have HG2 := Lib.hid hg2
        have HNo := Lib.hid hno
        clear hb2 hg2 hno
        go_wp2
        go_roundw
        case rel => exact ⟨i + 1, sv2, by omega, by go_num, take_nodup (by rw [Hn.out]; exact hil) (by rw [HXx.out]; exact HNo.out) HNd.out, by rw [one_take (by rw [Hn.out]; exact hil), take_at (by rw [Hn.out]; exact hil), HXx.out]; exact HG2.out, HB2.out⟩
        case measure => simp [intOf]; omega
    · obtain rfl : i = n := by omega
      have hdf : decide (i < i) = false := by simp
      have hdf2 : decide ((i : Int) < (i : Int)) = false := by simp
      have e9 : al.take i = al := List.take_of_length_le (by rw [Hn.out]; exact Nat.le_refl _)
      have HNa : Hid al.Nodup := Lib.hid (by have := HNd.out; rwa [e9] at this)
      have HGa : Hid (Gw w.heap.size (w.heap.size + 1) w.heap.size (w.heap.size + 2) al [] (one al) sv wr) := Lib.hid (by have := HGw.out; rwa [e9] at this)
      have HDn : Hid (newD al ps = newT (one al) [] ps) := Lib.hid (newD_go HNs.out HNa.out)
      have HT0 : Hid (Texts al.length [] (one al)) := Lib.hid ⟨by simp [one], fun k hk => by simp at hk, List.nodup_nil⟩
      clear e9 hil HGw HNd
      go_wp2
      go_loopw [42] (fun iv wr => ∃ (k : Nat) (T : List (List Int)) (sv : Value), k ≤ P ∧ iv = .int .i64 k ∧ Gw w.heap.size (w.heap.size + 1) w.heap.size (w.heap.size + 2) al (ps.take k) T sv wr ∧ Texts al.length (ps.take k) T ∧ (∀ j, (T.getD j []).length ≤ 16) ∧ newD al ps = newT T (ps.take k) (ps.drop k) ∧ Below w.heap.size w wr) (fun iv _ => P - (intOf iv).toNat)
      case atStart => exact ⟨0, one al, sv, by omega, rfl, by simpa using HGa.out, by simpa using HT0.out, short_one al, by simpa using HDn.out, HBw.out⟩
      case round =>
        clear HGa HT0 HDn HBw
        obtain ⟨k, T, sv, hk, rfl, hgw, htx, hsh, hdn, hbw⟩ := hrel
        have HGw := Lib.hid hgw
        have HTx := Lib.hid htx
        have HSh := Lib.hid hsh
        have HDn := Lib.hid hdn
        have HBw := Lib.hid hbw
        clear hgw htx hsh hdn hbw
        by_cases hkl : k < P
        · have hd1 : decide (k < P) = true := by simpa using hkl
          have hd2 : decide ((k : Int) < (P : Int)) = true := by simp; omega
          obtain ⟨d, p, e, hrg⟩ := (HPw.out.below HBw.out).at_ k (by rw [HP.out]; exact hkl)
          obtain ⟨pk, hpk⟩ : ∃ pk, ps.getD k (0, 0) = pk := ⟨_, rfl⟩
          rw [hpk] at hrg
          obtain ⟨x, y⟩ := pk
          dsimp only at hrg
          have HPk := Lib.hid hpk
          have HRg := Lib.hid hrg
          clear hpk hrg
          subst e
          go_wp2_with (refine wpList_load_mid rfl 151 (.tmp 44) rfl d (p + k * 2) rfl [.int .i64 x, .int .i64 y] _ HRg.out under_pair rfl size_bpair ?_)
          have hba : Below wr.heap.size wr (wr.alloc (.cells #[.int .i64 x, .int .i64 y] 151)) := (Below.refl _ _).alloc (Nat.le_refl _) _
          have hMl : T.length ≤ 512 := by
            have h1 := HTx.out.len
            have h2 := HS.out
            have h3 := Hn.out
            rw [List.length_take] at h1
            omega
          refine (addPair_any _ w.heap.size (w.heap.size + 1) w.heap.size (w.heap.size + 2) al (ps.take k) T sv x y (HGw.out.later hba) HTx.out hMl HSh.out).mono ?_
          rintro e w2 ⟨hb2, rfl, hg2⟩
          have HB2 := Lib.hid (HBw.out.trans ((hba.mono HBw.out.size).trans hb2))
          have HG2 := Lib.hid hg2
          have HDr : Hid (ps.drop k = (x, y) :: ps.drop (k + 1)) := Lib.hid (by rw [pdrop_at (by rw [HP.out]; exact hkl), HPk.out])
          have HTk : Hid (ps.take (k + 1) = ps.take k ++ [(x, y)]) := Lib.hid (by rw [ptake_at (by rw [HP.out]; exact hkl), HPk.out])
          clear hba hMl hb2 hg2
          obtain ⟨E, hE⟩ : ∃ E, stepE T (ps.take k) (x, y) = E := ⟨_, rfl⟩
          rw [hE]
          have HE := Lib.hid hE
          clear hE
          by_cases hE0 : E = 0
          · have HE0 := Lib.hid hE0
            obtain ⟨sv2, hg2⟩ := HG2.out (by rw [HE.out]; exact hE0)
            have HG3 := Lib.hid hg2
            subst hE0
            clear hg2
            go_wp2
            go_roundw
            case rel => exact ⟨k + 1, T ++ [txt T (x, y)], sv2, by omega, by go_num, by rw [HTk.out]; exact HG3.out, by rw [HTk.out]; exact HTx.out.snoc HE.out, short_snoc HSh.out (stepE_zero HE.out).2.2.2, by rw [HDn.out, HDr.out, newT_yes HE.out, HTk.out], HB2.out⟩
            case measure => simp [intOf]; omega
          · have hEb : (E == 0) = false := by simpa using hE0
            have HD : Hid (newD al ps = (E, [])) := Lib.hid (by rw [HDn.out, HDr.out, newT_no (by rw [HE.out]; exact hE0), HE.out])
            have HE0 := Lib.hid hE0
            clear hE0
            go_wp2
            go_ret2
            exact ⟨HB2.out, Or.inl ⟨by rw [HD.out]; exact HE0.out, by rw [HD.out]; rfl⟩⟩
        · obtain rfl : k = P := by omega
          have hdf : decide (k < k) = false := by simp
          have hdf2 : decide ((k : Int) < (k : Int)) = false := by simp
          have e9 : ps.take k = ps := List.take_of_length_le (by rw [HP.out]; exact Nat.le_refl _)
          have e8 : ps.drop k = [] := List.drop_of_length_le (by rw [HP.out]; exact Nat.le_refl _)
          have HD : Hid (newD al ps = (0, T)) := Lib.hid (by rw [HDn.out, e8]; rfl)
          have HC : Hid (Cd (w.heap.size + 1) al ps T wr) := Lib.hid (by
            have h1 := HGw.out
            rw [e9] at h1
            obtain ⟨s9, c9, rfl, _, h2, _⟩ := Tn.Sl.all1 h1.texts
            exact ⟨w.heap.size, s9, c9, h1.cr, h2⟩)
          clear e9 e8 hkl
          go_wp2
          go_ret2
          exact ⟨HBw.out, Or.inr ⟨by rw [HD.out], w.heap.size + 1, rfl, rfl, by rw [HD.out]; exact HC.out⟩⟩
end Go.Proofs.Ytdffbjjiojheoaa.Bp
