/-
  Plain values: Code, LvA, LvB, LvC, LvD, NmA, TmA, LvE, LvG, LvI, LvJ, LvK, LvP, LvQ, LvR, TmB, LvV, LvW.
-/
import Derived.Test.YtfhblaggeahbjaaXRa
import Derived.Test.YtfhblaggeahbjaaXRb
set_option linter.unusedVariables false
set_option linter.unusedSimpArgs false
namespace Go.Proofs.Ytfhblaggeahbjaa
open Go.RowKit
attribute [local go_sem ↓] c_seq c_region c_cond c_block c_ret c_skip c_exit c_cont t_normal t_ret t_exit b_normal b_ret b_exit run_nil run_cons g_some o_mv o_pick o_bin o_un o_ld o_bld o_len o_mkf o_nilc o_fa o_fd o_ia o_iaa o_ix o_ixs o_ext o_al o_bxf o_bxt o_bsl o_bslf o_mks o_st o_stf o_call o_rng o_nxt o_callm o_calvm o_calv cond_true cond_false upd_get sigF_cons o_eqa o_mm o_app o_slc
attribute [local go_sem] num_nil num_cons chunks rngV next_is next_iter val_some new_some st_some stf_some guard_tt guard_ff guard_tf guard_ft guard_un calv_fn put_some put_none ev_tmp ev_const ev_func sig_eq sigF_nil q0 q1 nilcV faV fdV iaV iaaV ixV ixsV extV mksV loadP storeP lenPV binPV unPV intBin partsP fillP zeros PV.good PV.cellsOf PV.one q2 q3 q4 q5 q6 q7 q8 q9 q10 q11 q12 q13 q14 q15 q16 q17 q18 q19 q20 q21 q22 q23 q24 q25 q26 q27 q28 q29 q30 q31 q32 q33 q34 q35 q36 q37 q38 wrap64 app_some mmL mmV mm2 eqE eqParts eqInt eqBool eqStr partV q39 q40 pickV q41 q42 q43 q44 q45 q46 q47 q48 q49 appE oldOf rowOf updL q50 q51 q52 q53 zlt ovr_get ite_neN ite_eqN q54 q55 q56 q57 q58 q59 q60 q61 q62 q63 q64 q65 q66 q67 tailP_f tailP_t tailF_f tailF_t slcP bndO capO slcLen intOf Option.isSome_none Option.isNone_none Option.isSome_some Option.isNone_some nilP slc_sl slc_csl slc_osl slc_osl0 slc_ocap slc_str List.append_nil List.length_append resP resPs resP1 PV.sc.injEq Value.bool.injEq Value.int.injEq
section
abbrev F.law04_TermRights : FuncId := 6
abbrev F.law04_alive : FuncId := 13
abbrev F.law04_Great : FuncId := 14
abbrev F.term_Levels : FuncId := 16
abbrev F.term_Loose : FuncId := 20
abbrev F.ref00_Nodes : FuncId := 21
abbrev F.term_Arrow : FuncId := 22
abbrev F.term_Right : FuncId := 25
abbrev F.term_App : FuncId := 26
abbrev F.term_Lam : FuncId := 27
abbrev F.term_Pi : FuncId := 28
abbrev F.term_Spine : FuncId := 29
abbrev F.term_Nodes : FuncId := 30
abbrev F.term_Same : FuncId := 31
abbrev F.term_Var : FuncId := 55
abbrev F.term_Sort : FuncId := 56
abbrev F.law04_u : FuncId := 57
abbrev F.law04_zero : FuncId := 58
abbrev F.term_Const : FuncId := 59
abbrev F.ref00_SameTexts : FuncId := 60
abbrev F.term_Consts : FuncId := 61
abbrev F.term_Let : FuncId := 62
abbrev F.ref00_LevelNodes : FuncId := 63
abbrev F.term_putLevels : FuncId := 64
abbrev F.term_loose : FuncId := 70
abbrev F.term_clone : FuncId := 71
abbrev F.term_raise : FuncId := 72
abbrev F.term_made : FuncId := 73
abbrev F.term_formed : FuncId := 75
abbrev F.term_bound : FuncId := 76
abbrev F.term_applied : FuncId := 77
abbrev F.term_copyTo : FuncId := 78
abbrev F.term_all : FuncId := 79
abbrev F.term_levelNodes : FuncId := 80
abbrev F.term_same : FuncId := 81
abbrev F.term_cloneLevels : FuncId := 105
abbrev F.name_Sort : FuncId := 106
abbrev F.level_Inst : FuncId := 107
abbrev F.term_deeper : FuncId := 109
abbrev F.term_has : FuncId := 111
abbrev F.level_Right : FuncId := 112
abbrev F.term_constant : FuncId := 113
abbrev F.term_parts : FuncId := 114
abbrev F.term_all_1 : FuncId := 115
abbrev F.term_walk : FuncId := 116
abbrev F.term_sameLevels : FuncId := 117
abbrev F.level_Max : FuncId := 125
abbrev F.slices_Clone_string_string : FuncId := 126
abbrev F.slices_Sort_string_string : FuncId := 127
abbrev F.slices_Compact_string_string : FuncId := 128
abbrev F.level_inst : FuncId := 129
abbrev F.level_Nodes : FuncId := 130
abbrev F.level_formed : FuncId := 131
abbrev F.name_Right : FuncId := 132
abbrev F.level_Num : FuncId := 135
abbrev F.level_clone : FuncId := 136
abbrev F.level_made : FuncId := 137
abbrev F.slices_pdqsortOrdered_string : FuncId := 138
abbrev F.math_bits_Len : FuncId := 139
abbrev F.level_nodes : FuncId := 140
abbrev F.strings_IndexFunc : FuncId := 141
abbrev F.name_Right_1 : FuncId := 142
abbrev F.name_plain : FuncId := 143
abbrev F.strings_indexFunc : FuncId := 157
def mc_law04_TermRights : MCode :=
  (.seq (.region [⟨(some 4), (.bx (.tmp 0) false), none⟩, ⟨(some 8), (.mv (.const (.bool false))), none⟩] false) (.seq (.seq (.region [⟨(some 9), (.call F.law04_alive []), none⟩, ⟨(some 10), (.un .not (.tmp 9)), none⟩] false) (.cond (.tmp 10) (.seq (.region [⟨(some 8), (.mv (.const (.bool false))), none⟩] false) .ret) .skip)) (.seq (.seq (.region [⟨(some 11), (.ld (.tmp 4) 5 true), none⟩, ⟨(some 12), (.call F.law04_Great [(.tmp 11)]), none⟩, ⟨(some 13), (.mv (.tmp 12)), none⟩, ⟨(some 14), (.mv (.tmp 2)), (some (13, false))⟩, ⟨(some 15), (.bin .lss (.tmp 14) (.const (.int .i64 0))), (some (13, false))⟩, ⟨(some 16), (.pick (.tmp 13) (.const (.bool true)) (.tmp 15)), none⟩, ⟨(some 17), (.mv (.tmp 16)), none⟩, ⟨(some 18), (.mv (.tmp 2)), (some (17, false))⟩, ⟨(some 19), (.bin .gtr (.tmp 18) (.const (.int .i64 1000))), (some (17, false))⟩, ⟨(some 20), (.pick (.tmp 17) (.const (.bool true)) (.tmp 19)), none⟩, ⟨(some 21), (.mv (.tmp 20)), none⟩, ⟨(some 22), (.mv (.tmp 3)), (some (21, false))⟩, ⟨(some 23), (.bin .lss (.tmp 22) (.const (.int .i64 0))), (some (21, false))⟩, ⟨(some 24), (.pick (.tmp 21) (.const (.bool true)) (.tmp 23)), none⟩, ⟨(some 25), (.mv (.tmp 24)), none⟩, ⟨(some 26), (.mv (.tmp 3)), (some (25, false))⟩, ⟨(some 27), (.bin .gtr (.tmp 26) (.const (.int .i64 1000))), (some (25, false))⟩, ⟨(some 28), (.pick (.tmp 25) (.const (.bool true)) (.tmp 27)), none⟩] false) (.cond (.tmp 28) (.seq (.region [⟨(some 8), (.mv (.const (.bool true))), none⟩] false) .ret) .skip)) (.seq (.seq (.region [⟨(some 29), (.ld (.tmp 4) 5 true), none⟩, ⟨(some 30), (.mv (.tmp 1)), none⟩, ⟨(some 31), (.mv (.tmp 2)), none⟩, ⟨(some 32), (.call F.term_Right [(.tmp 29), (.tmp 30), (.tmp 31)]), none⟩, ⟨(some 33), (.un .not (.tmp 32)), none⟩] false) (.cond (.tmp 33) (.seq (.region [⟨(some 8), (.mv (.const (.bool true))), none⟩] false) .ret) .skip)) (.seq (.region [⟨(some 34), (.ld (.tmp 4) 5 true), none⟩, ⟨(some 35), (.mv (.tmp 1)), none⟩, ⟨(some 36), (.mv (.tmp 2)), none⟩, ⟨(some 37), (.mv (.tmp 3)), none⟩, ⟨(some 38), (.bin .add (.tmp 36) (.tmp 37)), none⟩, ⟨(some 39), (.callm F.term_Right [(.tmp 34), (.tmp 35), (.tmp 38)]), none⟩, ⟨(some 40), (.mv (.tmp 39)), none⟩, ⟨(some 41), (.ld (.tmp 4) 5 true), (some (40, true))⟩, ⟨(some 42), (.mv (.tmp 2)), (some (40, true))⟩, ⟨(some 43), (.callm F.term_Right [(.tmp 41), (.const (.int .i64 4)), (.tmp 42)]), (some (40, true))⟩, ⟨(some 44), (.pick (.tmp 40) (.tmp 43) (.const (.bool false))), none⟩, ⟨(some 45), (.mv (.tmp 44)), none⟩, ⟨(some 46), (.ld (.tmp 4) 5 true), (some (45, true))⟩, ⟨(some 47), (.call F.term_Loose [(.tmp 46)]), (some (45, true))⟩, ⟨(some 48), (.mv (.tmp 2)), (some (45, true))⟩, ⟨(some 49), (.bin .leq (.tmp 47) (.tmp 48)), (some (45, true))⟩, ⟨(some 50), (.pick (.tmp 45) (.tmp 49) (.const (.bool false))), none⟩, ⟨(some 51), (.mv (.tmp 50)), none⟩, ⟨(some 52), (.ld (.tmp 4) 5 true), (some (51, true))⟩, ⟨(some 53), (.mv (.tmp 1)), (some (51, true))⟩, ⟨(some 54), (.ld (.tmp 4) 5 true), (some (51, true))⟩, ⟨(some 55), (.call F.term_Loose [(.tmp 54)]), (some (51, true))⟩, ⟨(some 56), (.callm F.term_Right [(.tmp 52), (.tmp 53), (.tmp 55)]), (some (51, true))⟩, ⟨(some 57), (.pick (.tmp 51) (.tmp 56) (.const (.bool false))), none⟩, ⟨(some 58), (.mv (.tmp 57)), none⟩, ⟨(some 59), (.ld (.tmp 4) 5 true), (some (58, true))⟩, ⟨(some 60), (.callm F.term_Loose [(.tmp 59)]), (some (58, true))⟩, ⟨(some 61), (.bin .eql (.tmp 60) (.const (.int .i64 0))), (some (58, true))⟩, ⟨(some 62), (.mv (.tmp 61)), (some (58, true))⟩, ⟨(some 63), (.ld (.tmp 4) 5 true), (some (62, false))⟩, ⟨(some 64), (.mv (.tmp 1)), (some (62, false))⟩, ⟨(some 65), (.ld (.tmp 4) 5 true), (some (62, false))⟩, ⟨(some 66), (.call F.term_Loose [(.tmp 65)]), (some (62, false))⟩, ⟨(some 67), (.bin .sub (.tmp 66) (.const (.int .i64 1))), (some (62, false))⟩, ⟨(some 68), (.callm F.term_Right [(.tmp 63), (.tmp 64), (.tmp 67)]), (some (62, false))⟩, ⟨(some 69), (.un .not (.tmp 68)), (some (62, false))⟩, ⟨(some 70), (.pick (.tmp 62) (.const (.bool true)) (.tmp 69)), (some (58, true))⟩, ⟨(some 71), (.pick (.tmp 58) (.tmp 70) (.const (.bool false))), none⟩, ⟨(some 8), (.mv (.tmp 71)), none⟩] true) .ret)))))
theorem is_law04_TermRights : FnIs Try.prog ⟨[], [], [39, 43, 56, 60, 68], []⟩ F.law04_TermRights 72 mc_law04_TermRights [(.tmp 8)] :=
  ⟨by kernel_rfl, _, _, Try.func6, rfl, by decide, rfl, by kernel_rfl, by kernel_rfl⟩
def mc_law04_alive : MCode :=
  (.seq (.region [⟨(some 0), (.mv (.const (.bool false))), none⟩] false) (.seq (.region [⟨(some 8), (.call F.term_Var [(.const (.int .i64 0))]), none⟩, ⟨(some 9), (.call F.law04_u []), none⟩, ⟨(some 10), (.call F.term_Sort [(.tmp 9)]), none⟩, ⟨(some 11), (.call F.term_Var [(.const (.int .i64 0))]), none⟩, ⟨(some 12), (.bsl 5 2 [(.int .i64 0), (.int .i64 0), (.string ⟨#[]⟩), (.slice none 0 0), (.slice none 0 0)] [(0, (5, (.tmp 10))), (5, (5, (.tmp 11)))] false), none⟩, ⟨(some 13), (.call F.term_Lam [(.tmp 8), (.tmp 12)]), none⟩, ⟨(some 1), (.al [(.int .i64 0), (.int .i64 0), (.string ⟨#[]⟩), (.slice none 0 0), (.slice none 0 0)]), none⟩, ⟨none, (.st (.tmp 1) (.tmp 13) 5 true), none⟩] false) (.seq (.region [⟨(some 15), (.ld (.tmp 1) 5 true), none⟩, ⟨(some 16), (.call F.law04_zero []), none⟩, ⟨(some 17), (.bsl 3 1 [(.int .i64 0), (.int .i64 0), (.slice none 0 0)] [(0, (3, (.tmp 16)))] false), none⟩, ⟨(some 18), (.call F.term_Levels [(.tmp 15), (.tmp 17)]), none⟩, ⟨(some 14), (.mv (.tmp 18)), none⟩, ⟨(some 19), (.ext (.tmp 14) 0), none⟩, ⟨(some 20), (.ext (.tmp 14) 1), none⟩, ⟨(some 2), (.al [(.int .i64 0), (.int .i64 0), (.string ⟨#[]⟩), (.slice none 0 0), (.slice none 0 0)]), none⟩, ⟨none, (.st (.tmp 2) (.tmp 19) 5 true), none⟩, ⟨(some 3), (.mv (.tmp 20)), none⟩] true) (.seq (.region [⟨(some 22), (.ld (.tmp 1) 5 true), none⟩, ⟨(some 23), (.call F.term_Const [(.const (.string ⟨#[97]⟩)), (.const (.slice none 0 0))]), none⟩, ⟨(some 24), (.call F.law04_zero []), none⟩, ⟨(some 25), (.bsl 3 1 [(.int .i64 0), (.int .i64 0), (.slice none 0 0)] [(0, (3, (.tmp 24)))] false), none⟩, ⟨(some 26), (.call F.term_Const [(.const (.string ⟨#[98]⟩)), (.tmp 25)]), none⟩, ⟨(some 27), (.bsl 5 2 [(.int .i64 0), (.int .i64 0), (.string ⟨#[]⟩), (.slice none 0 0), (.slice none 0 0)] [(0, (5, (.tmp 23))), (5, (5, (.tmp 26)))] false), none⟩, ⟨(some 28), (.call F.term_App [(.tmp 22), (.tmp 27)]), none⟩, ⟨(some 29), (.call F.term_Spine [(.tmp 28)]), none⟩, ⟨(some 21), (.mv (.tmp 29)), none⟩, ⟨(some 30), (.ext (.tmp 21) 0), none⟩, ⟨(some 31), (.ext (.tmp 21) 1), none⟩, ⟨(some 4), (.al [(.int .i64 0), (.int .i64 0), (.string ⟨#[]⟩), (.slice none 0 0), (.slice none 0 0)]), none⟩, ⟨none, (.st (.tmp 4) (.tmp 30) 5 true), none⟩, ⟨(some 5), (.mv (.tmp 31)), none⟩] true) (.seq (.region [⟨(some 33), (.call F.term_Var [(.const (.int .i64 0))]), none⟩, ⟨(some 34), (.call F.term_Var [(.const (.int .i64 0))]), none⟩, ⟨(some 35), (.call F.law04_zero []), none⟩, ⟨(some 36), (.call F.term_Sort [(.tmp 35)]), none⟩, ⟨(some 37), (.bsl 5 2 [(.int .i64 0), (.int .i64 0), (.string ⟨#[]⟩), (.slice none 0 0), (.slice none 0 0)] [(0, (5, (.tmp 34))), (5, (5, (.tmp 36)))] false), none⟩, ⟨(some 38), (.call F.term_Arrow [(.tmp 33), (.tmp 37)]), none⟩, ⟨(some 32), (.mv (.tmp 38)), none⟩, ⟨(some 39), (.ext (.tmp 32) 0), none⟩, ⟨(some 40), (.ext (.tmp 32) 1), none⟩, ⟨(some 6), (.al [(.int .i64 0), (.int .i64 0), (.string ⟨#[]⟩), (.slice none 0 0), (.slice none 0 0)]), none⟩, ⟨none, (.st (.tmp 6) (.tmp 39) 5 true), none⟩, ⟨(some 7), (.mv (.tmp 40)), none⟩] false) (.seq (.region [⟨(some 41), (.mv (.tmp 3)), none⟩, ⟨(some 42), (.mv (.tmp 41)), none⟩, ⟨(some 43), (.mv (.tmp 7)), (some (42, true))⟩, ⟨(some 44), (.pick (.tmp 42) (.tmp 43) (.const (.bool false))), none⟩, ⟨(some 45), (.mv (.tmp 44)), none⟩, ⟨(some 46), (.ld (.tmp 1) 5 true), (some (45, true))⟩, ⟨(some 47), (.call F.term_Right [(.tmp 46), (.const (.int .i64 1)), (.const (.int .i64 0))]), (some (45, true))⟩, ⟨(some 48), (.pick (.tmp 45) (.tmp 47) (.const (.bool false))), none⟩, ⟨(some 49), (.mv (.tmp 48)), none⟩, ⟨(some 50), (.ld (.tmp 1) 5 true), (some (49, true))⟩, ⟨(some 51), (.call F.term_Right [(.tmp 50), (.const (.int .i64 0)), (.const (.int .i64 0))]), (some (49, true))⟩, ⟨(some 52), (.un .not (.tmp 51)), (some (49, true))⟩, ⟨(some 53), (.pick (.tmp 49) (.tmp 52) (.const (.bool false))), none⟩, ⟨(some 54), (.mv (.tmp 53)), none⟩, ⟨(some 55), (.ld (.tmp 2) 5 true), (some (54, true))⟩, ⟨(some 56), (.call F.term_Right [(.tmp 55), (.const (.int .i64 0)), (.const (.int .i64 0))]), (some (54, true))⟩, ⟨(some 57), (.pick (.tmp 54) (.tmp 56) (.const (.bool false))), none⟩, ⟨(some 58), (.mv (.tmp 57)), none⟩, ⟨(some 59), (.ld (.tmp 1) 5 true), (some (58, true))⟩, ⟨(some 60), (.call F.term_Nodes [(.tmp 59)]), (some (58, true))⟩, ⟨(some 61), (.bin .eql (.tmp 60) (.const (.int .i64 6))), (some (58, true))⟩, ⟨(some 62), (.pick (.tmp 58) (.tmp 61) (.const (.bool false))), none⟩, ⟨(some 63), (.mv (.tmp 62)), none⟩, ⟨(some 64), (.call F.term_Var [(.const (.int .i64 2))]), (some (63, true))⟩, ⟨(some 65), (.call F.term_Loose [(.tmp 64)]), (some (63, true))⟩, ⟨(some 66), (.bin .eql (.tmp 65) (.const (.int .i64 3))), (some (63, true))⟩, ⟨(some 67), (.pick (.tmp 63) (.tmp 66) (.const (.bool false))), none⟩, ⟨(some 68), (.mv (.tmp 67)), none⟩, ⟨(some 69), (.ld (.tmp 4) 5 true), (some (68, true))⟩, ⟨(some 70), (.ld (.tmp 1) 5 true), (some (68, true))⟩, ⟨(some 71), (.call F.term_Same [(.tmp 69), (.tmp 70)]), (some (68, true))⟩, ⟨(some 72), (.pick (.tmp 68) (.tmp 71) (.const (.bool false))), none⟩, ⟨(some 73), (.mv (.tmp 72)), none⟩, ⟨(some 74), (.mv (.tmp 5)), (some (73, true))⟩, ⟨(some 75), (.len (.tmp 74) false), (some (73, true))⟩, ⟨(some 76), (.bin .eql (.tmp 75) (.const (.int .i64 2))), (some (73, true))⟩, ⟨(some 77), (.pick (.tmp 73) (.tmp 76) (.const (.bool false))), none⟩, ⟨(some 78), (.mv (.tmp 77)), none⟩, ⟨(some 79), (.mv (.tmp 5)), (some (78, true))⟩, ⟨(some 80), (.ia (.tmp 79) (.const (.int .i64 0)) 5 false), (some (78, true))⟩, ⟨(some 81), (.fa (.tmp 80) 2), (some (78, true))⟩, ⟨(some 82), (.ld (.tmp 81) 1 false), (some (78, true))⟩, ⟨(some 83), (.bin .eql (.tmp 82) (.const (.string ⟨#[97]⟩))), (some (78, true))⟩, ⟨(some 84), (.pick (.tmp 78) (.tmp 83) (.const (.bool false))), none⟩, ⟨(some 85), (.mv (.tmp 84)), none⟩, ⟨(some 86), (.fa (.tmp 6) 4), (some (85, true))⟩, ⟨(some 87), (.ld (.tmp 86) 1 false), (some (85, true))⟩, ⟨(some 88), (.ia (.tmp 87) (.const (.int .i64 1)) 5 false), (some (85, true))⟩, ⟨(some 89), (.fa (.tmp 88) 4), (some (85, true))⟩, ⟨(some 90), (.ld (.tmp 89) 1 false), (some (85, true))⟩, ⟨(some 91), (.ia (.tmp 90) (.const (.int .i64 1)) 5 false), (some (85, true))⟩, ⟨(some 92), (.fa (.tmp 91) 1), (some (85, true))⟩, ⟨(some 93), (.ld (.tmp 92) 1 false), (some (85, true))⟩, ⟨(some 94), (.bin .eql (.tmp 93) (.const (.int .i64 2))), (some (85, true))⟩, ⟨(some 95), (.pick (.tmp 85) (.tmp 94) (.const (.bool false))), none⟩, ⟨(some 96), (.mv (.tmp 95)), none⟩, ⟨(some 97), (.call F.term_Const [(.const (.string ⟨#[98]⟩)), (.const (.slice none 0 0))]), (some (96, true))⟩, ⟨(some 98), (.call F.term_Const [(.const (.string ⟨#[97]⟩)), (.const (.slice none 0 0))]), (some (96, true))⟩, ⟨(some 99), (.bsl 5 1 [(.int .i64 0), (.int .i64 0), (.string ⟨#[]⟩), (.slice none 0 0), (.slice none 0 0)] [(0, (5, (.tmp 98)))] false), (some (96, true))⟩, ⟨(some 100), (.call F.term_App [(.tmp 97), (.tmp 99)]), (some (96, true))⟩, ⟨(some 101), (.call F.term_Consts [(.tmp 100)]), (some (96, true))⟩, ⟨(some 102), (.bsl 1 2 [(.string ⟨#[]⟩)] [(0, (1, (.const (.string ⟨#[97]⟩)))), (1, (1, (.const (.string ⟨#[98]⟩))))] false), (some (96, true))⟩, ⟨(some 103), (.call F.ref00_SameTexts [(.tmp 101), (.tmp 102)]), (some (96, true))⟩, ⟨(some 104), (.pick (.tmp 96) (.tmp 103) (.const (.bool false))), none⟩, ⟨(some 105), (.mv (.tmp 104)), none⟩, ⟨(some 106), (.call F.law04_zero []), (some (105, true))⟩, ⟨(some 107), (.call F.term_Sort [(.tmp 106)]), (some (105, true))⟩, ⟨(some 108), (.call F.term_Var [(.const (.int .i64 0))]), (some (105, true))⟩, ⟨(some 109), (.call F.term_Var [(.const (.int .i64 1))]), (some (105, true))⟩, ⟨(some 110), (.call F.term_Let [(.tmp 107), (.tmp 108), (.tmp 109)]), (some (105, true))⟩, ⟨(some 111), (.call F.term_Right [(.tmp 110), (.const (.int .i64 0)), (.const (.int .i64 1))]), (some (105, true))⟩, ⟨(some 112), (.pick (.tmp 105) (.tmp 111) (.const (.bool false))), none⟩, ⟨(some 113), (.mv (.tmp 112)), none⟩, ⟨(some 114), (.call F.term_Var [(.const (.int .i64 0))]), (some (113, true))⟩, ⟨(some 115), (.call F.law04_zero []), (some (113, true))⟩, ⟨(some 116), (.call F.term_Sort [(.tmp 115)]), (some (113, true))⟩, ⟨(some 117), (.bsl 5 1 [(.int .i64 0), (.int .i64 0), (.string ⟨#[]⟩), (.slice none 0 0), (.slice none 0 0)] [(0, (5, (.tmp 116)))] false), (some (113, true))⟩, ⟨(some 118), (.call F.term_Pi [(.tmp 114), (.tmp 117)]), (some (113, true))⟩, ⟨(some 119), (.fd (.tmp 118) 0 1 false), (some (113, true))⟩, ⟨(some 120), (.bin .eql (.tmp 119) (.const (.int .i64 6))), (some (113, true))⟩, ⟨(some 121), (.pick (.tmp 113) (.tmp 120) (.const (.bool false))), none⟩, ⟨(some 0), (.mv (.tmp 121)), none⟩] false) .ret))))))
theorem is_law04_alive : FnIs Try.prog ⟨[], [1, 2, 4, 6], [], []⟩ F.law04_alive 122 mc_law04_alive [(.tmp 0)] :=
  ⟨by kernel_rfl, _, _, Try.func13, rfl, by decide, rfl, by kernel_rfl, by kernel_rfl⟩
def mc_law04_Great : MCode :=
  (.seq (.region [⟨(some 1), (.bx (.tmp 0) false), none⟩, ⟨(some 2), (.mv (.const (.bool false))), none⟩] false) (.seq (.region [⟨(some 3), (.ld (.tmp 1) 5 true), none⟩, ⟨(some 4), (.call F.ref00_Nodes [(.tmp 3), (.const (.int .i64 2500))]), none⟩, ⟨(some 5), (.bin .gtr (.tmp 4) (.const (.int .i64 2500))), none⟩, ⟨(some 2), (.mv (.tmp 5)), none⟩] false) .ret))
theorem is_law04_Great : FnIs Try.prog ⟨[], [], [], []⟩ F.law04_Great 6 mc_law04_Great [(.tmp 2)] :=
  ⟨by kernel_rfl, _, _, Try.func14, rfl, by decide, rfl, by kernel_rfl, by kernel_rfl⟩
def mc_term_Levels : MCode :=
  (.seq (.region [⟨(some 2), (.bx (.tmp 0) false), none⟩, ⟨(some 4), (.al [(.int .i64 0), (.int .i64 0), (.string ⟨#[]⟩), (.slice none 0 0), (.slice none 0 0)]), none⟩, ⟨(some 5), (.mv (.const (.bool false))), none⟩] false) (.seq (.seq (.region [⟨(some 7), (.ld (.tmp 2) 5 true), none⟩, ⟨(some 8), (.mv (.tmp 1)), none⟩, ⟨(some 9), (.len (.tmp 8) false), none⟩, ⟨(some 10), (.call F.term_Right [(.tmp 7), (.tmp 9), (.const (.int .i64 1125899906842624))]), none⟩, ⟨(some 11), (.un .not (.tmp 10)), none⟩] false) (.cond (.tmp 11) (.seq (.region [⟨(some 12), (.bld [(.int .i64 0), (.int .i64 0), (.string ⟨#[]⟩), (.slice none 0 0), (.slice none 0 0)] []), none⟩, ⟨none, (.st (.tmp 4) (.tmp 12) 5 false), none⟩, ⟨(some 5), (.mv (.const (.bool false))), none⟩] false) .ret) .skip)) (.seq (.region [⟨(some 6), (.al [(.int .i64 0), (.int .i64 0), (.string ⟨#[]⟩), (.slice none 0 0), (.slice none 0 0)]), none⟩] false) (.seq (.seq (.region [⟨(some 13), (.mv (.tmp 1)), none⟩, ⟨(some 14), (.call F.term_putLevels [(.tmp 6), (.tmp 2), (.tmp 13)]), none⟩, ⟨(some 15), (.un .not (.tmp 14)), none⟩, ⟨(some 16), (.mv (.tmp 15)), none⟩, ⟨(some 17), (.ld (.tmp 6) 5 true), (some (16, false))⟩, ⟨(some 18), (.call F.term_Nodes [(.tmp 17)]), (some (16, false))⟩, ⟨(some 19), (.bin .gtr (.tmp 18) (.const (.int .i64 2000))), (some (16, false))⟩, ⟨(some 20), (.pick (.tmp 16) (.const (.bool true)) (.tmp 19)), none⟩] false) (.cond (.tmp 20) (.seq (.region [⟨(some 21), (.bld [(.int .i64 0), (.int .i64 0), (.string ⟨#[]⟩), (.slice none 0 0), (.slice none 0 0)] []), none⟩, ⟨none, (.st (.tmp 4) (.tmp 21) 5 false), none⟩, ⟨(some 5), (.mv (.const (.bool false))), none⟩] false) .ret) .skip)) (.seq (.region [⟨(some 22), (.ld (.tmp 6) 5 true), none⟩, ⟨none, (.st (.tmp 4) (.tmp 22) 5 false), none⟩, ⟨(some 5), (.mv (.const (.bool true))), none⟩] false) .ret)))))
theorem is_term_Levels : FnIs Try.prog ⟨[], [], [], []⟩ F.term_Levels 23 mc_term_Levels [(.cell 4 5 true), (.tmp 5)] :=
  ⟨by kernel_rfl, _, _, Try.func16, rfl, by decide, rfl, by kernel_rfl, by kernel_rfl⟩
def mc_term_Loose : MCode :=
  (.seq (.region [⟨(some 1), (.bx (.tmp 0) false), none⟩, ⟨(some 2), (.mv (.const (.int .i64 0))), none⟩] false) (.seq (.seq (.region [⟨(some 3), (.ld (.tmp 1) 5 true), none⟩, ⟨(some 4), (.call F.term_Right [(.tmp 3), (.const (.int .i64 4)), (.const (.int .i64 1125899906842624))]), none⟩, ⟨(some 5), (.un .not (.tmp 4)), none⟩] false) (.cond (.tmp 5) (.seq (.region [⟨(some 2), (.mv (.const (.int .i64 0))), none⟩] false) .ret) .skip)) (.seq (.region [⟨(some 6), (.call F.term_loose [(.tmp 1)]), none⟩, ⟨(some 2), (.mv (.tmp 6)), none⟩] false) .ret)))
theorem is_term_Loose : FnIs Try.prog ⟨[], [], [], []⟩ F.term_Loose 7 mc_term_Loose [(.tmp 2)] :=
  ⟨by kernel_rfl, _, _, Try.func20, rfl, by decide, rfl, by kernel_rfl, by kernel_rfl⟩
def mc_ref00_Nodes : MCode :=
  (.seq (.region [⟨(some 2), (.bx (.tmp 0) false), none⟩, ⟨(some 4), (.mv (.const (.int .i64 0))), none⟩] false) (.seq (.region [⟨(some 8), (.fa (.tmp 2) 2), none⟩, ⟨(some 9), (.ld (.tmp 8) 1 false), none⟩, ⟨(some 10), (.len (.tmp 9) true), none⟩, ⟨(some 11), (.bin .quo (.tmp 10) (.const (.int .i64 16))), none⟩, ⟨(some 12), (.bin .add (.const (.int .i64 1)) (.tmp 11)), none⟩, ⟨(some 5), (.mv (.tmp 12)), none⟩] false) (.seq (.seq (.region [⟨(some 6), (.mv (.const (.int .i64 0))), none⟩] false) (.block 0 (.loop (.seq (.seq (.region [⟨(some 13), (.mv (.tmp 6)), none⟩, ⟨(some 14), (.fa (.tmp 2) 3), none⟩, ⟨(some 15), (.ld (.tmp 14) 1 false), none⟩, ⟨(some 16), (.len (.tmp 15) false), none⟩, ⟨(some 17), (.bin .lss (.tmp 13) (.tmp 16)), none⟩, ⟨(some 18), (.mv (.tmp 17)), none⟩, ⟨(some 19), (.mv (.tmp 5)), (some (18, true))⟩, ⟨(some 20), (.mv (.tmp 1)), (some (18, true))⟩, ⟨(some 21), (.bin .leq (.tmp 19) (.tmp 20)), (some (18, true))⟩, ⟨(some 22), (.pick (.tmp 18) (.tmp 21) (.const (.bool false))), none⟩] false) (.cond (.tmp 22) .skip (.exit 0))) (.seq (.block 1 (.region [⟨(some 25), (.mv (.tmp 5)), none⟩, ⟨(some 26), (.fa (.tmp 2) 3), none⟩, ⟨(some 27), (.ld (.tmp 26) 1 false), none⟩, ⟨(some 28), (.mv (.tmp 6)), none⟩, ⟨(some 29), (.ia (.tmp 27) (.tmp 28) 3 false), none⟩, ⟨(some 30), (.ld (.tmp 29) 3 true), none⟩, ⟨(some 31), (.mv (.tmp 1)), none⟩, ⟨(some 32), (.call F.ref00_LevelNodes [(.tmp 30), (.tmp 31)]), none⟩, ⟨(some 33), (.bin .add (.tmp 25) (.tmp 32)), none⟩, ⟨(some 5), (.mv (.tmp 33)), none⟩] false)) (.region [⟨(some 23), (.mv (.tmp 6)), none⟩, ⟨(some 24), (.bin .add (.tmp 23) (.const (.int .i64 1))), none⟩, ⟨(some 6), (.mv (.tmp 24)), none⟩] false)))))) (.seq (.seq (.region [⟨(some 7), (.mv (.const (.int .i64 0))), none⟩] false) (.block 2 (.loop (.seq (.seq (.region [⟨(some 34), (.mv (.tmp 7)), none⟩, ⟨(some 35), (.fa (.tmp 2) 4), none⟩, ⟨(some 36), (.ld (.tmp 35) 1 false), none⟩, ⟨(some 37), (.len (.tmp 36) false), none⟩, ⟨(some 38), (.bin .lss (.tmp 34) (.tmp 37)), none⟩, ⟨(some 39), (.mv (.tmp 38)), none⟩, ⟨(some 40), (.mv (.tmp 5)), (some (39, true))⟩, ⟨(some 41), (.mv (.tmp 1)), (some (39, true))⟩, ⟨(some 42), (.bin .leq (.tmp 40) (.tmp 41)), (some (39, true))⟩, ⟨(some 43), (.pick (.tmp 39) (.tmp 42) (.const (.bool false))), none⟩] false) (.cond (.tmp 43) .skip (.exit 2))) (.seq (.block 3 (.region [⟨(some 46), (.mv (.tmp 5)), none⟩, ⟨(some 47), (.fa (.tmp 2) 4), none⟩, ⟨(some 48), (.ld (.tmp 47) 1 false), none⟩, ⟨(some 49), (.mv (.tmp 7)), none⟩, ⟨(some 50), (.ia (.tmp 48) (.tmp 49) 5 false), none⟩, ⟨(some 51), (.ld (.tmp 50) 5 true), none⟩, ⟨(some 52), (.mv (.tmp 1)), none⟩, ⟨(some 53), (.call F.ref00_Nodes [(.tmp 51), (.tmp 52)]), none⟩, ⟨(some 54), (.bin .add (.tmp 46) (.tmp 53)), none⟩, ⟨(some 5), (.mv (.tmp 54)), none⟩] false)) (.region [⟨(some 44), (.mv (.tmp 7)), none⟩, ⟨(some 45), (.bin .add (.tmp 44) (.const (.int .i64 1))), none⟩, ⟨(some 7), (.mv (.tmp 45)), none⟩] false)))))) (.seq (.region [⟨(some 55), (.mv (.tmp 5)), none⟩, ⟨(some 56), (.mv (.tmp 1)), none⟩, ⟨(some 57), (.bin .add (.tmp 56) (.const (.int .i64 1))), none⟩, ⟨(some 58), (.mm false [(.tmp 55), (.tmp 57)]), none⟩, ⟨(some 4), (.mv (.tmp 58)), none⟩] false) .ret)))))
theorem is_ref00_Nodes : FnIs Try.prog ⟨[], [], [], []⟩ F.ref00_Nodes 59 mc_ref00_Nodes [(.tmp 4)] :=
  ⟨by kernel_rfl, _, _, Try.func21, rfl, by decide, rfl, by kernel_rfl, by kernel_rfl⟩
def mc_term_Arrow : MCode :=
  (.seq (.region [⟨(some 2), (.bx (.tmp 0) false), none⟩, ⟨(some 4), (.al [(.int .i64 0), (.int .i64 0), (.string ⟨#[]⟩), (.slice none 0 0), (.slice none 0 0)]), none⟩, ⟨(some 5), (.mv (.const (.bool false))), none⟩] false) (.seq (.region [⟨(some 12), (.ld (.tmp 2) 5 true), none⟩, ⟨(some 13), (.call F.term_Nodes [(.tmp 12)]), none⟩, ⟨(some 14), (.mv (.tmp 1)), none⟩, ⟨(some 15), (.len (.tmp 14) false), none⟩, ⟨(some 16), (.bin .add (.tmp 13) (.tmp 15)), none⟩, ⟨(some 6), (.mv (.tmp 16)), none⟩] false) (.seq (.region [⟨(some 17), (.ld (.tmp 2) 5 true), none⟩, ⟨(some 18), (.call F.term_Right [(.tmp 17), (.const (.int .i64 4)), (.const (.int .i64 1125899906842624))]), none⟩, ⟨(some 7), (.mv (.tmp 18)), none⟩] false) (.seq (.seq (.region [⟨(some 19), (.mv (.tmp 1)), none⟩, ⟨(some 20), (.len (.tmp 19) false), none⟩, ⟨(some 21), (.mv (.const (.int .i64 0))), none⟩] false) (.block 0 (.loop (.seq (.region [⟨(some 22), (.bin .lss (.tmp 21) (.tmp 20)), none⟩] false) (.seq (.cond (.tmp 22) .skip (.exit 0)) (.seq (.block 1 (.seq (.region [⟨(some 23), (.mv (.tmp 21)), none⟩, ⟨(some 8), (.mv (.tmp 23)), none⟩] false) (.seq (.region [⟨(some 24), (.mv (.tmp 6)), none⟩, ⟨(some 25), (.mv (.tmp 1)), none⟩, ⟨(some 26), (.mv (.tmp 8)), none⟩, ⟨(some 27), (.ia (.tmp 25) (.tmp 26) 5 false), none⟩, ⟨(some 28), (.ld (.tmp 27) 5 true), none⟩, ⟨(some 29), (.call F.term_Nodes [(.tmp 28)]), none⟩, ⟨(some 30), (.bin .add (.tmp 24) (.tmp 29)), none⟩, ⟨(some 6), (.mv (.tmp 30)), none⟩] false) (.seq (.region [⟨(some 31), (.mv (.tmp 7)), none⟩, ⟨(some 32), (.un .not (.tmp 31)), none⟩, ⟨(some 33), (.mv (.tmp 32)), none⟩, ⟨(some 34), (.mv (.tmp 6)), (some (33, false))⟩, ⟨(some 35), (.bin .gtr (.tmp 34) (.const (.int .i64 2000))), (some (33, false))⟩, ⟨(some 36), (.pick (.tmp 33) (.const (.bool true)) (.tmp 35)), none⟩, ⟨(some 37), (.mv (.tmp 36)), none⟩, ⟨(some 38), (.mv (.tmp 1)), (some (37, false))⟩, ⟨(some 39), (.mv (.tmp 8)), (some (37, false))⟩, ⟨(some 40), (.ia (.tmp 38) (.tmp 39) 5 false), (some (37, false))⟩, ⟨(some 41), (.ld (.tmp 40) 5 true), (some (37, false))⟩, ⟨(some 42), (.call F.term_Right [(.tmp 41), (.const (.int .i64 4)), (.const (.int .i64 1125899906842624))]), (some (37, false))⟩, ⟨(some 43), (.un .not (.tmp 42)), (some (37, false))⟩, ⟨(some 44), (.pick (.tmp 37) (.const (.bool true)) (.tmp 43)), none⟩] false) (.cond (.tmp 44) (.seq (.region [⟨(some 45), (.bld [(.int .i64 0), (.int .i64 0), (.string ⟨#[]⟩), (.slice none 0 0), (.slice none 0 0)] []), none⟩, ⟨none, (.st (.tmp 4) (.tmp 45) 5 false), none⟩, ⟨(some 5), (.mv (.const (.bool false))), none⟩] false) .ret) .skip))))) (.region [⟨(some 46), (.bin .add (.tmp 21) (.const (.int .i64 1))), none⟩, ⟨(some 21), (.mv (.tmp 46)), none⟩] false))))))) (.seq (.seq (.region [⟨(some 47), (.mv (.tmp 7)), none⟩, ⟨(some 48), (.un .not (.tmp 47)), none⟩] false) (.cond (.tmp 48) (.seq (.region [⟨(some 49), (.bld [(.int .i64 0), (.int .i64 0), (.string ⟨#[]⟩), (.slice none 0 0), (.slice none 0 0)] []), none⟩, ⟨none, (.st (.tmp 4) (.tmp 49) 5 false), none⟩, ⟨(some 5), (.mv (.const (.bool false))), none⟩] false) .ret) .skip)) (.seq (.region [⟨(some 50), (.call F.term_clone [(.tmp 2)]), none⟩, ⟨(some 9), (.al [(.int .i64 0), (.int .i64 0), (.string ⟨#[]⟩), (.slice none 0 0), (.slice none 0 0)]), none⟩, ⟨none, (.st (.tmp 9) (.tmp 50) 5 false), none⟩] false) (.seq (.region [⟨(some 51), (.mv (.tmp 1)), none⟩, ⟨(some 52), (.len (.tmp 51) false), none⟩, ⟨(some 53), (.call F.term_raise [(.tmp 9), (.tmp 52), (.const (.int .i64 0))]), none⟩] false) (.seq (.seq (.region [⟨(some 54), (.mv (.tmp 1)), none⟩, ⟨(some 55), (.len (.tmp 54) false), none⟩, ⟨(some 56), (.bin .sub (.tmp 55) (.const (.int .i64 1))), none⟩, ⟨(some 10), (.mv (.tmp 56)), none⟩] false) (.block 2 (.loop (.seq (.seq (.region [⟨(some 57), (.mv (.tmp 10)), none⟩, ⟨(some 58), (.bin .geq (.tmp 57) (.const (.int .i64 0))), none⟩] false) (.cond (.tmp 58) .skip (.exit 2))) (.seq (.block 3 (.seq (.region [⟨(some 61), (.mv (.tmp 1)), none⟩, ⟨(some 62), (.mv (.tmp 10)), none⟩, ⟨(some 63), (.ia (.tmp 61) (.tmp 62) 5 false), none⟩, ⟨(some 64), (.call F.term_clone [(.tmp 63)]), none⟩, ⟨(some 11), (.al [(.int .i64 0), (.int .i64 0), (.string ⟨#[]⟩), (.slice none 0 0), (.slice none 0 0)]), none⟩, ⟨none, (.st (.tmp 11) (.tmp 64) 5 false), none⟩] false) (.seq (.region [⟨(some 65), (.mv (.tmp 10)), none⟩, ⟨(some 66), (.call F.term_raise [(.tmp 11), (.tmp 65), (.const (.int .i64 0))]), none⟩] false) (.region [⟨(some 67), (.ld (.tmp 11) 5 true), none⟩, ⟨(some 68), (.ld (.tmp 9) 5 true), none⟩, ⟨(some 69), (.bsl 5 2 [(.int .i64 0), (.int .i64 0), (.string ⟨#[]⟩), (.slice none 0 0), (.slice none 0 0)] [(0, (5, (.tmp 67))), (5, (5, (.tmp 68)))] false), none⟩, ⟨(some 70), (.call F.term_made [(.const (.int .i64 6)), (.tmp 69)]), none⟩, ⟨none, (.st (.tmp 9) (.tmp 70) 5 false), none⟩] false)))) (.region [⟨(some 59), (.mv (.tmp 10)), none⟩, ⟨(some 60), (.bin .sub (.tmp 59) (.const (.int .i64 1))), none⟩, ⟨(some 10), (.mv (.tmp 60)), none⟩] false)))))) (.seq (.region [⟨(some 71), (.ld (.tmp 9) 5 true), none⟩, ⟨none, (.st (.tmp 4) (.tmp 71) 5 false), none⟩, ⟨(some 5), (.mv (.const (.bool true))), none⟩] false) .ret)))))))))
theorem is_term_Arrow : FnIs Try.prog ⟨[], [], [], []⟩ F.term_Arrow 72 mc_term_Arrow [(.cell 4 5 true), (.tmp 5)] :=
  ⟨by kernel_rfl, _, _, Try.func22, rfl, by decide, rfl, by kernel_rfl, by kernel_rfl⟩
def mc_term_Right : MCode :=
  (.seq (.region [⟨(some 3), (.bx (.tmp 0) false), none⟩, ⟨(some 6), (.mv (.const (.bool false))), none⟩] false) (.seq (.region [⟨(some 7), (.mv (.tmp 1)), none⟩, ⟨(some 8), (.bin .geq (.tmp 7) (.const (.int .i64 0))), none⟩, ⟨(some 9), (.mv (.tmp 8)), none⟩, ⟨(some 10), (.mv (.tmp 1)), (some (9, true))⟩, ⟨(some 11), (.bin .leq (.tmp 10) (.const (.int .i64 4))), (some (9, true))⟩, ⟨(some 12), (.pick (.tmp 9) (.tmp 11) (.const (.bool false))), none⟩, ⟨(some 13), (.mv (.tmp 12)), none⟩, ⟨(some 14), (.mv (.tmp 2)), (some (13, true))⟩, ⟨(some 15), (.bin .geq (.tmp 14) (.const (.int .i64 0))), (some (13, true))⟩, ⟨(some 16), (.pick (.tmp 13) (.tmp 15) (.const (.bool false))), none⟩, ⟨(some 17), (.mv (.tmp 16)), none⟩, ⟨(some 18), (.ld (.tmp 3) 5 true), (some (17, true))⟩, ⟨(some 19), (.call F.term_Nodes [(.tmp 18)]), (some (17, true))⟩, ⟨(some 20), (.bin .leq (.tmp 19) (.const (.int .i64 2000))), (some (17, true))⟩, ⟨(some 21), (.pick (.tmp 17) (.tmp 20) (.const (.bool false))), none⟩, ⟨(some 22), (.mv (.tmp 21)), none⟩, ⟨(some 23), (.mv (.tmp 1)), (some (22, true))⟩, ⟨(some 24), (.mv (.tmp 2)), (some (22, true))⟩, ⟨(some 25), (.mm false [(.tmp 24), (.const (.int .i64 1125899906842624))]), (some (22, true))⟩, ⟨(some 26), (.call F.term_formed [(.tmp 3), (.tmp 23), (.tmp 25)]), (some (22, true))⟩, ⟨(some 27), (.pick (.tmp 22) (.tmp 26) (.const (.bool false))), none⟩, ⟨(some 6), (.mv (.tmp 27)), none⟩] false) .ret))
theorem is_term_Right : FnIs Try.prog ⟨[], [], [], []⟩ F.term_Right 28 mc_term_Right [(.tmp 6)] :=
  ⟨by kernel_rfl, _, _, Try.func25, rfl, by decide, rfl, by kernel_rfl, by kernel_rfl⟩
def mc_term_App : MCode :=
  (.seq (.region [⟨(some 2), (.bx (.tmp 0) false), none⟩, ⟨(some 4), (.al [(.int .i64 0), (.int .i64 0), (.string ⟨#[]⟩), (.slice none 0 0), (.slice none 0 0)]), none⟩] false) (.seq (.region [⟨(some 7), (.call F.term_clone [(.tmp 2)]), none⟩, ⟨(some 5), (.al [(.int .i64 0), (.int .i64 0), (.string ⟨#[]⟩), (.slice none 0 0), (.slice none 0 0)]), none⟩, ⟨none, (.st (.tmp 5) (.tmp 7) 5 false), none⟩] false) (.seq (.seq (.region [⟨(some 8), (.mv (.tmp 1)), none⟩, ⟨(some 9), (.len (.tmp 8) false), none⟩, ⟨(some 10), (.mv (.const (.int .i64 0))), none⟩] false) (.block 0 (.loop (.seq (.region [⟨(some 11), (.bin .lss (.tmp 10) (.tmp 9)), none⟩] false) (.seq (.cond (.tmp 11) .skip (.exit 0)) (.seq (.block 1 (.seq (.region [⟨(some 12), (.mv (.tmp 10)), none⟩, ⟨(some 6), (.mv (.tmp 12)), none⟩] false) (.region [⟨(some 13), (.ld (.tmp 5) 5 true), none⟩, ⟨(some 14), (.mv (.tmp 1)), none⟩, ⟨(some 15), (.mv (.tmp 6)), none⟩, ⟨(some 16), (.ia (.tmp 14) (.tmp 15) 5 false), none⟩, ⟨(some 17), (.call F.term_clone [(.tmp 16)]), none⟩, ⟨(some 18), (.bsl 5 2 [(.int .i64 0), (.int .i64 0), (.string ⟨#[]⟩), (.slice none 0 0), (.slice none 0 0)] [(0, (5, (.tmp 13))), (5, (5, (.tmp 17)))] false), none⟩, ⟨(some 19), (.callm F.term_made [(.const (.int .i64 4)), (.tmp 18)]), none⟩, ⟨none, (.st (.tmp 5) (.tmp 19) 5 false), none⟩] true))) (.region [⟨(some 20), (.bin .add (.tmp 10) (.const (.int .i64 1))), none⟩, ⟨(some 10), (.mv (.tmp 20)), none⟩] false))))))) (.seq (.region [⟨(some 21), (.ld (.tmp 5) 5 true), none⟩, ⟨none, (.st (.tmp 4) (.tmp 21) 5 true), none⟩] false) .ret))))
theorem is_term_App : FnIs Try.prog ⟨[], [4], [19], []⟩ F.term_App 22 mc_term_App [(.cell 4 5 true)] :=
  ⟨by kernel_rfl, _, _, Try.func26, rfl, by decide, rfl, by kernel_rfl, by kernel_rfl⟩
def mc_term_Lam : MCode :=
  (.seq (.region [⟨(some 2), (.bx (.tmp 0) false), none⟩, ⟨(some 4), (.al [(.int .i64 0), (.int .i64 0), (.string ⟨#[]⟩), (.slice none 0 0), (.slice none 0 0)]), none⟩] false) (.seq (.region [⟨(some 5), (.ld (.tmp 2) 5 true), none⟩, ⟨(some 6), (.mv (.tmp 1)), none⟩, ⟨(some 7), (.call F.term_bound [(.const (.int .i64 5)), (.tmp 5), (.tmp 6)]), none⟩, ⟨none, (.st (.tmp 4) (.tmp 7) 5 true), none⟩] false) .ret))
theorem is_term_Lam : FnIs Try.prog ⟨[], [4], [], []⟩ F.term_Lam 8 mc_term_Lam [(.cell 4 5 true)] :=
  ⟨by kernel_rfl, _, _, Try.func27, rfl, by decide, rfl, by kernel_rfl, by kernel_rfl⟩
def mc_term_Pi : MCode :=
  (.seq (.region [⟨(some 2), (.bx (.tmp 0) false), none⟩, ⟨(some 4), (.al [(.int .i64 0), (.int .i64 0), (.string ⟨#[]⟩), (.slice none 0 0), (.slice none 0 0)]), none⟩] false) (.seq (.region [⟨(some 5), (.ld (.tmp 2) 5 true), none⟩, ⟨(some 6), (.mv (.tmp 1)), none⟩, ⟨(some 7), (.call F.term_bound [(.const (.int .i64 6)), (.tmp 5), (.tmp 6)]), none⟩, ⟨none, (.st (.tmp 4) (.tmp 7) 5 true), none⟩] false) .ret))
theorem is_term_Pi : FnIs Try.prog ⟨[], [4], [], []⟩ F.term_Pi 8 mc_term_Pi [(.cell 4 5 true)] :=
  ⟨by kernel_rfl, _, _, Try.func28, rfl, by decide, rfl, by kernel_rfl, by kernel_rfl⟩
def mc_term_Spine : MCode :=
  (.seq (.region [⟨(some 1), (.bx (.tmp 0) false), none⟩, ⟨(some 2), (.al [(.int .i64 0), (.int .i64 0), (.string ⟨#[]⟩), (.slice none 0 0), (.slice none 0 0)]), none⟩, ⟨(some 3), (.mv (.const (.slice none 0 0))), none⟩] false) (.seq (.region [⟨(some 4), (.mv (.tmp 1)), none⟩, ⟨(some 5), (.mv (.const (.int .i64 0))), none⟩] false) (.seq (.block 0 (.loop (.seq (.seq (.region [⟨(some 8), (.mv (.tmp 4)), none⟩, ⟨(some 9), (.call F.term_applied [(.tmp 8)]), none⟩] false) (.cond (.tmp 9) .skip (.exit 0))) (.seq (.block 1 (.region [⟨(some 12), (.mv (.tmp 4)), none⟩, ⟨(some 13), (.nilc (.tmp 12)), none⟩, ⟨(some 14), (.fa (.tmp 13) 4), none⟩, ⟨(some 15), (.ld (.tmp 14) 1 false), none⟩, ⟨(some 16), (.ia (.tmp 15) (.const (.int .i64 0)) 5 false), none⟩, ⟨(some 4), (.mv (.tmp 16)), none⟩] false)) (.region [⟨(some 10), (.mv (.tmp 5)), none⟩, ⟨(some 11), (.bin .add (.tmp 10) (.const (.int .i64 1))), none⟩, ⟨(some 5), (.mv (.tmp 11)), none⟩] false))))) (.seq (.seq (.region [⟨(some 17), (.mv (.tmp 5)), none⟩, ⟨(some 18), (.bin .eql (.tmp 17) (.const (.int .i64 0))), none⟩] false) (.cond (.tmp 18) (.seq (.region [⟨(some 19), (.mv (.tmp 4)), none⟩, ⟨(some 20), (.call F.term_clone [(.tmp 19)]), none⟩, ⟨none, (.st (.tmp 2) (.tmp 20) 5 false), none⟩, ⟨(some 3), (.mv (.const (.slice none 0 0))), none⟩] false) .ret) .skip)) (.seq (.region [⟨(some 21), (.mv (.tmp 5)), none⟩, ⟨(some 22), (.mks 5 80 [(.int .i64 0), (.int .i64 0), (.string ⟨#[]⟩), (.slice none 0 0), (.slice none 0 0)] (.tmp 21) (.tmp 21)), none⟩, ⟨(some 6), (.mv (.tmp 22)), none⟩] false) (.seq (.seq (.region [⟨(some 7), (.mv (.tmp 1)), none⟩] false) (.block 2 (.loop (.seq (.seq (.region [⟨(some 23), (.mv (.tmp 5)), none⟩, ⟨(some 24), (.bin .gtr (.tmp 23) (.const (.int .i64 0))), none⟩] false) (.cond (.tmp 24) .skip (.exit 2))) (.seq (.block 3 (.seq (.region [⟨(some 30), (.mv (.tmp 5)), none⟩, ⟨(some 31), (.bin .sub (.tmp 30) (.const (.int .i64 1))), none⟩, ⟨(some 5), (.mv (.tmp 31)), none⟩] false) (.region [⟨(some 32), (.mv (.tmp 6)), none⟩, ⟨(some 33), (.mv (.tmp 5)), none⟩, ⟨(some 34), (.ia (.tmp 32) (.tmp 33) 5 false), none⟩, ⟨(some 35), (.mv (.tmp 7)), none⟩, ⟨(some 36), (.nilc (.tmp 35)), none⟩, ⟨(some 37), (.fa (.tmp 36) 4), none⟩, ⟨(some 38), (.ld (.tmp 37) 1 false), none⟩, ⟨(some 39), (.ia (.tmp 38) (.const (.int .i64 1)) 5 false), none⟩, ⟨(some 40), (.callm F.term_copyTo [(.tmp 34), (.tmp 39)]), none⟩] true))) (.region [⟨(some 25), (.mv (.tmp 7)), none⟩, ⟨(some 26), (.nilc (.tmp 25)), none⟩, ⟨(some 27), (.fa (.tmp 26) 4), none⟩, ⟨(some 28), (.ld (.tmp 27) 1 false), none⟩, ⟨(some 29), (.ia (.tmp 28) (.const (.int .i64 0)) 5 false), none⟩, ⟨(some 7), (.mv (.tmp 29)), none⟩] false)))))) (.seq (.region [⟨(some 41), (.mv (.tmp 4)), none⟩, ⟨(some 42), (.call F.term_clone [(.tmp 41)]), none⟩, ⟨(some 43), (.mv (.tmp 6)), none⟩, ⟨none, (.st (.tmp 2) (.tmp 42) 5 false), none⟩, ⟨(some 3), (.mv (.tmp 43)), none⟩] false) .ret)))))))
theorem is_term_Spine : FnIs Try.prog ⟨[], [], [40], []⟩ F.term_Spine 44 mc_term_Spine [(.cell 2 5 true), (.tmp 3)] :=
  ⟨by kernel_rfl, _, _, Try.func29, rfl, by decide, rfl, by kernel_rfl, by kernel_rfl⟩
def mc_term_Nodes : MCode :=
  (.seq (.region [⟨(some 1), (.bx (.tmp 0) false), none⟩, ⟨(some 2), (.al [(.int .i64 0)]), none⟩] false) (.seq (.region [⟨(some 3), (.al [(.int .i64 0)]), none⟩, ⟨none, (.st (.tmp 3) (.const (.int .i64 0)) 1 false), none⟩] false) (.seq (.seq (.region [⟨(some 6), (.call F.term_all [(.tmp 1)]), none⟩] false) (.block 0 (.rng 7 4 (.tmp 6) (.block 1 (.seq (.region [⟨(some 8), (.ld (.tmp 3) 1 false), none⟩, ⟨(some 9), (.bin .add (.tmp 8) (.const (.int .i64 1))), none⟩, ⟨none, (.st (.tmp 3) (.tmp 9) 1 false), none⟩] false) (.seq (.seq (.region [⟨(some 10), (.mv (.tmp 4)), none⟩, ⟨(some 11), (.nilc (.tmp 10)), none⟩, ⟨(some 12), (.fa (.tmp 11) 3), none⟩, ⟨(some 13), (.ld (.tmp 12) 1 false), none⟩, ⟨(some 14), (.len (.tmp 13) false), none⟩, ⟨(some 15), (.mv (.const (.int .i64 0))), none⟩] false) (.block 2 (.loop (.seq (.region [⟨(some 16), (.bin .lss (.tmp 15) (.tmp 14)), none⟩] false) (.seq (.cond (.tmp 16) .skip (.exit 2)) (.seq (.block 3 (.seq (.region [⟨(some 17), (.mv (.tmp 15)), none⟩, ⟨(some 5), (.mv (.tmp 17)), none⟩] false) (.region [⟨(some 18), (.ld (.tmp 3) 1 false), none⟩, ⟨(some 19), (.mv (.tmp 4)), none⟩, ⟨(some 20), (.nilc (.tmp 19)), none⟩, ⟨(some 21), (.fa (.tmp 20) 3), none⟩, ⟨(some 22), (.ld (.tmp 21) 1 false), none⟩, ⟨(some 23), (.mv (.tmp 5)), none⟩, ⟨(some 24), (.ia (.tmp 22) (.tmp 23) 3 false), none⟩, ⟨(some 25), (.call F.term_levelNodes [(.tmp 24), (.const (.int .i64 2001))]), none⟩, ⟨(some 26), (.bin .add (.tmp 18) (.tmp 25)), none⟩, ⟨none, (.st (.tmp 3) (.tmp 26) 1 false), none⟩] true))) (.region [⟨(some 27), (.bin .add (.tmp 15) (.const (.int .i64 1))), none⟩, ⟨(some 15), (.mv (.tmp 27)), none⟩] false))))))) (.seq (.region [⟨(some 28), (.ld (.tmp 3) 1 false), none⟩, ⟨(some 29), (.bin .gtr (.tmp 28) (.const (.int .i64 2000))), none⟩] false) (.cond (.tmp 29) (.seq (.region [⟨none, (.st (.tmp 2) (.const (.int .i64 2001)) 1 false), none⟩] false) .ret) .skip)))))))) (.seq (.region [⟨(some 30), (.ld (.tmp 3) 1 false), none⟩, ⟨none, (.st (.tmp 2) (.tmp 30) 1 false), none⟩] false) .ret))))
theorem is_term_Nodes : FnIsR Try.prog ⟨[], [], [], []⟩ F.term_Nodes 31 mc_term_Nodes [(.cell 2 1 false)] :=
  ⟨by kernel_rfl, _, _, Try.func30, rfl, by decide, rfl, by kernel_rfl, by kernel_rfl⟩
def mc_term_Same : MCode :=
  (.seq (.region [⟨(some 2), (.bx (.tmp 0) false), none⟩, ⟨(some 3), (.bx (.tmp 1) false), none⟩, ⟨(some 4), (.mv (.const (.bool false))), none⟩] false) (.seq (.region [⟨(some 5), (.call F.term_same [(.tmp 2), (.tmp 3)]), none⟩, ⟨(some 4), (.mv (.tmp 5)), none⟩] false) .ret))
theorem is_term_Same : FnIs Try.prog ⟨[], [], [], []⟩ F.term_Same 6 mc_term_Same [(.tmp 4)] :=
  ⟨by kernel_rfl, _, _, Try.func31, rfl, by decide, rfl, by kernel_rfl, by kernel_rfl⟩
def mc_term_Var : MCode :=
  (.seq (.region [⟨(some 2), (.al [(.int .i64 0), (.int .i64 0), (.string ⟨#[]⟩), (.slice none 0 0), (.slice none 0 0)]), none⟩] false) (.seq (.region [⟨(some 3), (.mv (.tmp 0)), none⟩, ⟨(some 4), (.bld [(.int .i64 0), (.int .i64 0), (.string ⟨#[]⟩), (.slice none 0 0), (.slice none 0 0)] [(0, (1, (.const (.int .i64 1)))), (1, (1, (.tmp 3)))]), none⟩, ⟨none, (.st (.tmp 2) (.tmp 4) 5 true), none⟩] false) .ret))
theorem is_term_Var : FnIs Try.prog ⟨[], [2], [], []⟩ F.term_Var 5 mc_term_Var [(.cell 2 5 true)] :=
  ⟨by kernel_rfl, _, _, Try.func55, rfl, by decide, rfl, by kernel_rfl, by kernel_rfl⟩
def mc_term_Sort : MCode :=
  (.seq (.region [⟨(some 1), (.bx (.tmp 0) false), none⟩, ⟨(some 2), (.al [(.int .i64 0), (.int .i64 0), (.string ⟨#[]⟩), (.slice none 0 0), (.slice none 0 0)]), none⟩] false) (.seq (.region [⟨(some 3), (.ld (.tmp 1) 3 true), none⟩, ⟨(some 4), (.bsl 3 1 [(.int .i64 0), (.int .i64 0), (.slice none 0 0)] [(0, (3, (.tmp 3)))] false), none⟩, ⟨(some 5), (.call F.term_cloneLevels [(.tmp 4)]), none⟩, ⟨(some 6), (.bld [(.int .i64 0), (.int .i64 0), (.string ⟨#[]⟩), (.slice none 0 0), (.slice none 0 0)] [(0, (1, (.const (.int .i64 2)))), (3, (1, (.tmp 5)))]), none⟩, ⟨none, (.st (.tmp 2) (.tmp 6) 5 true), none⟩] false) .ret))
theorem is_term_Sort : FnIs Try.prog ⟨[], [2], [], []⟩ F.term_Sort 7 mc_term_Sort [(.cell 2 5 true)] :=
  ⟨by kernel_rfl, _, _, Try.func56, rfl, by decide, rfl, by kernel_rfl, by kernel_rfl⟩
def mc_law04_u : MCode :=
  (.seq (.region [⟨(some 0), (.al [(.int .i64 0), (.int .i64 0), (.slice none 0 0)]), none⟩] false) (.seq (.region [⟨(some 1), (.bld [(.int .i64 0), (.int .i64 0), (.slice none 0 0)] [(0, (1, (.const (.int .i64 2))))]), none⟩, ⟨none, (.st (.tmp 0) (.tmp 1) 3 true), none⟩] false) .ret))
theorem is_law04_u : FnIs Try.prog ⟨[], [0], [], []⟩ F.law04_u 2 mc_law04_u [(.cell 0 3 true)] :=
  ⟨by kernel_rfl, _, _, Try.func57, rfl, by decide, rfl, by kernel_rfl, by kernel_rfl⟩
def mc_law04_zero : MCode :=
  (.seq (.region [⟨(some 0), (.al [(.int .i64 0), (.int .i64 0), (.slice none 0 0)]), none⟩] false) (.seq (.region [⟨(some 1), (.bld [(.int .i64 0), (.int .i64 0), (.slice none 0 0)] [(0, (1, (.const (.int .i64 1))))]), none⟩, ⟨none, (.st (.tmp 0) (.tmp 1) 3 true), none⟩] false) .ret))
theorem is_law04_zero : FnIs Try.prog ⟨[], [0], [], []⟩ F.law04_zero 2 mc_law04_zero [(.cell 0 3 true)] :=
  ⟨by kernel_rfl, _, _, Try.func58, rfl, by decide, rfl, by kernel_rfl, by kernel_rfl⟩
def mc_term_Const : MCode :=
  (.seq (.region [⟨(some 4), (.al [(.int .i64 0), (.int .i64 0), (.string ⟨#[]⟩), (.slice none 0 0), (.slice none 0 0)]), none⟩] false) (.seq (.region [⟨(some 5), (.mv (.tmp 0)), none⟩, ⟨(some 6), (.mv (.tmp 1)), none⟩, ⟨(some 7), (.call F.term_cloneLevels [(.tmp 6)]), none⟩, ⟨(some 8), (.bld [(.int .i64 0), (.int .i64 0), (.string ⟨#[]⟩), (.slice none 0 0), (.slice none 0 0)] [(0, (1, (.const (.int .i64 3)))), (2, (1, (.tmp 5))), (3, (1, (.tmp 7)))]), none⟩, ⟨none, (.st (.tmp 4) (.tmp 8) 5 true), none⟩] false) .ret))
theorem is_term_Const : FnIs Try.prog ⟨[], [4], [], []⟩ F.term_Const 9 mc_term_Const [(.cell 4 5 true)] :=
  ⟨by kernel_rfl, _, _, Try.func59, rfl, by decide, rfl, by kernel_rfl, by kernel_rfl⟩
def mc_ref00_SameTexts : MCode :=
  (.seq (.region [⟨(some 4), (.mv (.const (.bool false))), none⟩] false) (.seq (.seq (.region [⟨(some 6), (.mv (.tmp 0)), none⟩, ⟨(some 7), (.len (.tmp 6) false), none⟩, ⟨(some 8), (.mv (.tmp 1)), none⟩, ⟨(some 9), (.len (.tmp 8) false), none⟩, ⟨(some 10), (.bin .neq (.tmp 7) (.tmp 9)), none⟩] false) (.cond (.tmp 10) (.seq (.region [⟨(some 4), (.mv (.const (.bool false))), none⟩] false) .ret) .skip)) (.seq (.seq (.region [⟨(some 5), (.mv (.const (.int .i64 0))), none⟩] false) (.block 0 (.loop (.seq (.seq (.region [⟨(some 11), (.mv (.tmp 5)), none⟩, ⟨(some 12), (.mv (.tmp 0)), none⟩, ⟨(some 13), (.len (.tmp 12) false), none⟩, ⟨(some 14), (.bin .lss (.tmp 11) (.tmp 13)), none⟩] false) (.cond (.tmp 14) .skip (.exit 0))) (.seq (.block 1 (.seq (.region [⟨(some 17), (.mv (.tmp 0)), none⟩, ⟨(some 18), (.mv (.tmp 5)), none⟩, ⟨(some 19), (.ia (.tmp 17) (.tmp 18) 1 false), none⟩, ⟨(some 20), (.ld (.tmp 19) 1 false), none⟩, ⟨(some 21), (.mv (.tmp 1)), none⟩, ⟨(some 22), (.mv (.tmp 5)), none⟩, ⟨(some 23), (.ia (.tmp 21) (.tmp 22) 1 false), none⟩, ⟨(some 24), (.ld (.tmp 23) 1 false), none⟩, ⟨(some 25), (.bin .neq (.tmp 20) (.tmp 24)), none⟩] true) (.cond (.tmp 25) (.seq (.region [⟨(some 4), (.mv (.const (.bool false))), none⟩] false) .ret) .skip))) (.region [⟨(some 15), (.mv (.tmp 5)), none⟩, ⟨(some 16), (.bin .add (.tmp 15) (.const (.int .i64 1))), none⟩, ⟨(some 5), (.mv (.tmp 16)), none⟩] false)))))) (.seq (.region [⟨(some 4), (.mv (.const (.bool true))), none⟩] false) .ret))))
theorem is_ref00_SameTexts : FnIs Try.prog ⟨[], [], [], []⟩ F.ref00_SameTexts 26 mc_ref00_SameTexts [(.tmp 4)] :=
  ⟨by kernel_rfl, _, _, Try.func60, rfl, by decide, rfl, by kernel_rfl, by kernel_rfl⟩
def mc_term_Consts : MCode :=
  (.seq (.region [⟨(some 1), (.bx (.tmp 0) false), none⟩, ⟨(some 2), (.mv (.const (.slice none 0 0))), none⟩] false) (.seq (.seq (.region [⟨(some 5), (.ld (.tmp 1) 5 true), none⟩, ⟨(some 6), (.call F.term_Right [(.tmp 5), (.const (.int .i64 4)), (.const (.int .i64 1125899906842624))]), none⟩, ⟨(some 7), (.un .not (.tmp 6)), none⟩] false) (.cond (.tmp 7) (.seq (.region [⟨(some 2), (.mv (.const (.slice none 0 0))), none⟩] false) .ret) .skip)) (.seq (.region [⟨(some 3), (.al [(.slice none 0 0)]), none⟩] false) (.seq (.seq (.region [⟨(some 8), (.call F.term_all [(.tmp 1)]), none⟩] false) (.block 0 (.rng 9 4 (.tmp 8) (.block 1 (.seq (.region [⟨(some 10), (.mv (.tmp 4)), none⟩, ⟨(some 11), (.nilc (.tmp 10)), none⟩, ⟨(some 12), (.fa (.tmp 11) 0), none⟩, ⟨(some 13), (.ld (.tmp 12) 1 false), none⟩, ⟨(some 14), (.bin .eql (.tmp 13) (.const (.int .i64 3))), none⟩] false) (.cond (.tmp 14) (.region [⟨(some 15), (.ld (.tmp 3) 1 false), none⟩, ⟨(some 16), (.mv (.tmp 4)), none⟩, ⟨(some 17), (.nilc (.tmp 16)), none⟩, ⟨(some 18), (.fa (.tmp 17) 2), none⟩, ⟨(some 19), (.ld (.tmp 18) 1 false), none⟩, ⟨(some 20), (.bsl 1 1 [(.string ⟨#[]⟩)] [(0, (1, (.tmp 19)))] false), none⟩, ⟨(some 21), (.app 1 16 (.tmp 15) (.tmp 20)), none⟩, ⟨none, (.st (.tmp 3) (.tmp 21) 1 false), none⟩] true) .skip)))))) (.seq (.region [⟨(some 22), (.ld (.tmp 3) 1 false), none⟩, ⟨(some 23), (.call F.name_Sort [(.tmp 22)]), none⟩, ⟨(some 2), (.mv (.tmp 23)), none⟩] false) .ret)))))
theorem is_term_Consts : FnIsR Try.prog ⟨[], [], [], []⟩ F.term_Consts 24 mc_term_Consts [(.tmp 2)] :=
  ⟨by kernel_rfl, _, _, Try.func61, rfl, by decide, rfl, by kernel_rfl, by kernel_rfl⟩
def mc_term_Let : MCode :=
  (.seq (.region [⟨(some 3), (.bx (.tmp 0) false), none⟩, ⟨(some 4), (.bx (.tmp 1) false), none⟩, ⟨(some 5), (.bx (.tmp 2) false), none⟩, ⟨(some 6), (.al [(.int .i64 0), (.int .i64 0), (.string ⟨#[]⟩), (.slice none 0 0), (.slice none 0 0)]), none⟩] false) (.seq (.region [⟨(some 7), (.call F.term_clone [(.tmp 3)]), none⟩, ⟨(some 8), (.call F.term_clone [(.tmp 4)]), none⟩, ⟨(some 9), (.call F.term_clone [(.tmp 5)]), none⟩, ⟨(some 10), (.bsl 5 3 [(.int .i64 0), (.int .i64 0), (.string ⟨#[]⟩), (.slice none 0 0), (.slice none 0 0)] [(0, (5, (.tmp 7))), (5, (5, (.tmp 8))), (10, (5, (.tmp 9)))] false), none⟩, ⟨(some 11), (.call F.term_made [(.const (.int .i64 7)), (.tmp 10)]), none⟩, ⟨none, (.st (.tmp 6) (.tmp 11) 5 true), none⟩] false) .ret))
theorem is_term_Let : FnIs Try.prog ⟨[], [6], [], []⟩ F.term_Let 12 mc_term_Let [(.cell 6 5 true)] :=
  ⟨by kernel_rfl, _, _, Try.func62, rfl, by decide, rfl, by kernel_rfl, by kernel_rfl⟩
def mc_ref00_LevelNodes : MCode :=
  (.seq (.region [⟨(some 2), (.bx (.tmp 0) false), none⟩, ⟨(some 4), (.mv (.const (.int .i64 0))), none⟩] false) (.seq (.region [⟨(some 5), (.mv (.const (.int .i64 1))), none⟩] false) (.seq (.seq (.region [⟨(some 6), (.mv (.const (.int .i64 0))), none⟩] false) (.block 0 (.loop (.seq (.seq (.region [⟨(some 7), (.mv (.tmp 6)), none⟩, ⟨(some 8), (.fa (.tmp 2) 2), none⟩, ⟨(some 9), (.ld (.tmp 8) 1 false), none⟩, ⟨(some 10), (.len (.tmp 9) false), none⟩, ⟨(some 11), (.bin .lss (.tmp 7) (.tmp 10)), none⟩, ⟨(some 12), (.mv (.tmp 11)), none⟩, ⟨(some 13), (.mv (.tmp 5)), (some (12, true))⟩, ⟨(some 14), (.mv (.tmp 1)), (some (12, true))⟩, ⟨(some 15), (.bin .leq (.tmp 13) (.tmp 14)), (some (12, true))⟩, ⟨(some 16), (.pick (.tmp 12) (.tmp 15) (.const (.bool false))), none⟩] false) (.cond (.tmp 16) .skip (.exit 0))) (.seq (.block 1 (.region [⟨(some 19), (.mv (.tmp 5)), none⟩, ⟨(some 20), (.fa (.tmp 2) 2), none⟩, ⟨(some 21), (.ld (.tmp 20) 1 false), none⟩, ⟨(some 22), (.mv (.tmp 6)), none⟩, ⟨(some 23), (.ia (.tmp 21) (.tmp 22) 3 false), none⟩, ⟨(some 24), (.ld (.tmp 23) 3 true), none⟩, ⟨(some 25), (.mv (.tmp 1)), none⟩, ⟨(some 26), (.call F.ref00_LevelNodes [(.tmp 24), (.tmp 25)]), none⟩, ⟨(some 27), (.bin .add (.tmp 19) (.tmp 26)), none⟩, ⟨(some 5), (.mv (.tmp 27)), none⟩] false)) (.region [⟨(some 17), (.mv (.tmp 6)), none⟩, ⟨(some 18), (.bin .add (.tmp 17) (.const (.int .i64 1))), none⟩, ⟨(some 6), (.mv (.tmp 18)), none⟩] false)))))) (.seq (.region [⟨(some 28), (.mv (.tmp 5)), none⟩, ⟨(some 29), (.mv (.tmp 1)), none⟩, ⟨(some 30), (.bin .add (.tmp 29) (.const (.int .i64 1))), none⟩, ⟨(some 31), (.mm false [(.tmp 28), (.tmp 30)]), none⟩, ⟨(some 4), (.mv (.tmp 31)), none⟩] false) .ret))))
theorem is_ref00_LevelNodes : FnIs Try.prog ⟨[], [], [], []⟩ F.ref00_LevelNodes 32 mc_ref00_LevelNodes [(.tmp 4)] :=
  ⟨by kernel_rfl, _, _, Try.func63, rfl, by decide, rfl, by kernel_rfl, by kernel_rfl⟩
def mc_term_putLevels : MCode :=
  (.seq (.region [⟨(some 6), (.mv (.const (.bool false))), none⟩] false) (.seq (.region [⟨(some 11), (.mv (.tmp 0)), none⟩, ⟨(some 12), (.mv (.tmp 0)), none⟩, ⟨(some 13), (.mv (.tmp 0)), none⟩, ⟨(some 14), (.mv (.tmp 1)), none⟩, ⟨(some 15), (.nilc (.tmp 14)), none⟩, ⟨(some 16), (.fa (.tmp 15) 0), none⟩, ⟨(some 17), (.ld (.tmp 16) 1 false), none⟩, ⟨(some 18), (.mv (.tmp 1)), none⟩, ⟨(some 19), (.nilc (.tmp 18)), none⟩, ⟨(some 20), (.fa (.tmp 19) 1), none⟩, ⟨(some 21), (.ld (.tmp 20) 1 false), none⟩, ⟨(some 22), (.mv (.tmp 1)), none⟩, ⟨(some 23), (.nilc (.tmp 22)), none⟩, ⟨(some 24), (.fa (.tmp 23) 2), none⟩, ⟨(some 25), (.ld (.tmp 24) 1 false), none⟩, ⟨(some 26), (.nilc (.tmp 11)), none⟩, ⟨(some 27), (.fa (.tmp 26) 0), none⟩, ⟨none, (.st (.tmp 27) (.tmp 17) 1 false), none⟩, ⟨(some 28), (.nilc (.tmp 12)), none⟩, ⟨(some 29), (.fa (.tmp 28) 1), none⟩, ⟨none, (.st (.tmp 29) (.tmp 21) 1 false), none⟩, ⟨(some 30), (.nilc (.tmp 13)), none⟩, ⟨(some 31), (.fa (.tmp 30) 2), none⟩, ⟨none, (.st (.tmp 31) (.tmp 25) 1 false), none⟩] true) (.seq (.seq (.region [⟨(some 32), (.mv (.tmp 1)), none⟩, ⟨(some 33), (.nilc (.tmp 32)), none⟩, ⟨(some 34), (.fa (.tmp 33) 3), none⟩, ⟨(some 35), (.ld (.tmp 34) 1 false), none⟩, ⟨(some 36), (.len (.tmp 35) false), none⟩, ⟨(some 37), (.bin .gtr (.tmp 36) (.const (.int .i64 0))), none⟩] false) (.cond (.tmp 37) (.region [⟨(some 38), (.mv (.tmp 0)), none⟩, ⟨(some 39), (.mv (.tmp 1)), none⟩, ⟨(some 40), (.nilc (.tmp 39)), none⟩, ⟨(some 41), (.fa (.tmp 40) 3), none⟩, ⟨(some 42), (.ld (.tmp 41) 1 false), none⟩, ⟨(some 43), (.len (.tmp 42) false), none⟩, ⟨(some 44), (.mks 3 40 [(.int .i64 0), (.int .i64 0), (.slice none 0 0)] (.tmp 43) (.tmp 43)), none⟩, ⟨(some 45), (.nilc (.tmp 38)), none⟩, ⟨(some 46), (.fa (.tmp 45) 3), none⟩, ⟨none, (.st (.tmp 46) (.tmp 44) 1 false), none⟩] false) .skip)) (.seq (.seq (.region [⟨(some 47), (.mv (.tmp 1)), none⟩, ⟨(some 48), (.nilc (.tmp 47)), none⟩, ⟨(some 49), (.fa (.tmp 48) 3), none⟩, ⟨(some 50), (.ld (.tmp 49) 1 false), none⟩, ⟨(some 51), (.len (.tmp 50) false), none⟩, ⟨(some 52), (.mv (.const (.int .i64 0))), none⟩] false) (.block 0 (.loop (.seq (.region [⟨(some 53), (.bin .lss (.tmp 52) (.tmp 51)), none⟩] false) (.seq (.cond (.tmp 53) .skip (.exit 0)) (.seq (.block 1 (.seq (.region [⟨(some 54), (.mv (.tmp 52)), none⟩, ⟨(some 7), (.mv (.tmp 54)), none⟩] false) (.seq (.region [⟨(some 56), (.mv (.tmp 1)), none⟩, ⟨(some 57), (.nilc (.tmp 56)), none⟩, ⟨(some 58), (.fa (.tmp 57) 3), none⟩, ⟨(some 59), (.ld (.tmp 58) 1 false), none⟩, ⟨(some 60), (.mv (.tmp 7)), none⟩, ⟨(some 61), (.ia (.tmp 59) (.tmp 60) 3 false), none⟩, ⟨(some 62), (.ld (.tmp 61) 3 true), none⟩, ⟨(some 63), (.mv (.tmp 2)), none⟩, ⟨(some 64), (.call F.level_Inst [(.tmp 62), (.tmp 63)]), none⟩, ⟨(some 55), (.mv (.tmp 64)), none⟩, ⟨(some 65), (.ext (.tmp 55) 0), none⟩, ⟨(some 66), (.ext (.tmp 55) 1), none⟩, ⟨(some 8), (.al [(.int .i64 0), (.int .i64 0), (.slice none 0 0)]), none⟩, ⟨none, (.st (.tmp 8) (.tmp 65) 3 true), none⟩, ⟨(some 9), (.mv (.tmp 66)), none⟩] false) (.seq (.seq (.region [⟨(some 67), (.mv (.tmp 9)), none⟩, ⟨(some 68), (.un .not (.tmp 67)), none⟩] false) (.cond (.tmp 68) (.seq (.region [⟨(some 6), (.mv (.const (.bool false))), none⟩] false) .ret) .skip)) (.region [⟨(some 69), (.mv (.tmp 0)), none⟩, ⟨(some 70), (.nilc (.tmp 69)), none⟩, ⟨(some 71), (.fa (.tmp 70) 3), none⟩, ⟨(some 72), (.ld (.tmp 71) 1 false), none⟩, ⟨(some 73), (.mv (.tmp 7)), none⟩, ⟨(some 74), (.ld (.tmp 8) 3 true), none⟩, ⟨(some 75), (.ia (.tmp 72) (.tmp 73) 3 false), none⟩, ⟨none, (.st (.tmp 75) (.tmp 74) 3 false), none⟩] true))))) (.region [⟨(some 76), (.bin .add (.tmp 52) (.const (.int .i64 1))), none⟩, ⟨(some 52), (.mv (.tmp 76)), none⟩] false))))))) (.seq (.seq (.region [⟨(some 77), (.mv (.tmp 1)), none⟩, ⟨(some 78), (.nilc (.tmp 77)), none⟩, ⟨(some 79), (.fa (.tmp 78) 4), none⟩, ⟨(some 80), (.ld (.tmp 79) 1 false), none⟩, ⟨(some 81), (.len (.tmp 80) false), none⟩, ⟨(some 82), (.bin .gtr (.tmp 81) (.const (.int .i64 0))), none⟩] false) (.cond (.tmp 82) (.region [⟨(some 83), (.mv (.tmp 0)), none⟩, ⟨(some 84), (.mv (.tmp 1)), none⟩, ⟨(some 85), (.nilc (.tmp 84)), none⟩, ⟨(some 86), (.fa (.tmp 85) 4), none⟩, ⟨(some 87), (.ld (.tmp 86) 1 false), none⟩, ⟨(some 88), (.len (.tmp 87) false), none⟩, ⟨(some 89), (.mks 5 80 [(.int .i64 0), (.int .i64 0), (.string ⟨#[]⟩), (.slice none 0 0), (.slice none 0 0)] (.tmp 88) (.tmp 88)), none⟩, ⟨(some 90), (.nilc (.tmp 83)), none⟩, ⟨(some 91), (.fa (.tmp 90) 4), none⟩, ⟨none, (.st (.tmp 91) (.tmp 89) 1 false), none⟩] false) .skip)) (.seq (.seq (.region [⟨(some 92), (.mv (.tmp 1)), none⟩, ⟨(some 93), (.nilc (.tmp 92)), none⟩, ⟨(some 94), (.fa (.tmp 93) 4), none⟩, ⟨(some 95), (.ld (.tmp 94) 1 false), none⟩, ⟨(some 96), (.len (.tmp 95) false), none⟩, ⟨(some 97), (.mv (.const (.int .i64 0))), none⟩] false) (.block 2 (.loop (.seq (.region [⟨(some 98), (.bin .lss (.tmp 97) (.tmp 96)), none⟩] false) (.seq (.cond (.tmp 98) .skip (.exit 2)) (.seq (.block 3 (.seq (.region [⟨(some 99), (.mv (.tmp 97)), none⟩, ⟨(some 10), (.mv (.tmp 99)), none⟩] false) (.seq (.region [⟨(some 100), (.mv (.tmp 0)), none⟩, ⟨(some 101), (.nilc (.tmp 100)), none⟩, ⟨(some 102), (.fa (.tmp 101) 4), none⟩, ⟨(some 103), (.ld (.tmp 102) 1 false), none⟩, ⟨(some 104), (.mv (.tmp 10)), none⟩, ⟨(some 105), (.ia (.tmp 103) (.tmp 104) 5 false), none⟩, ⟨(some 106), (.mv (.tmp 1)), none⟩, ⟨(some 107), (.nilc (.tmp 106)), none⟩, ⟨(some 108), (.fa (.tmp 107) 4), none⟩, ⟨(some 109), (.ld (.tmp 108) 1 false), none⟩, ⟨(some 110), (.mv (.tmp 10)), none⟩, ⟨(some 111), (.ia (.tmp 109) (.tmp 110) 5 false), none⟩, ⟨(some 112), (.mv (.tmp 2)), none⟩, ⟨(some 113), (.callm F.term_putLevels [(.tmp 105), (.tmp 111), (.tmp 112)]), none⟩, ⟨(some 114), (.un .not (.tmp 113)), none⟩] true) (.cond (.tmp 114) (.seq (.region [⟨(some 6), (.mv (.const (.bool false))), none⟩] false) .ret) .skip)))) (.region [⟨(some 115), (.bin .add (.tmp 97) (.const (.int .i64 1))), none⟩, ⟨(some 97), (.mv (.tmp 115)), none⟩] false))))))) (.seq (.region [⟨(some 6), (.mv (.const (.bool true))), none⟩] false) .ret)))))))
theorem is_term_putLevels : FnIs Try.prog ⟨[], [8], [113], []⟩ F.term_putLevels 116 mc_term_putLevels [(.tmp 6)] :=
  ⟨by kernel_rfl, _, _, Try.func64, rfl, by decide, rfl, by kernel_rfl, by kernel_rfl⟩
def mc_term_loose : MCode :=
  (.seq (.region [⟨(some 2), (.mv (.const (.int .i64 0))), none⟩] false) (.seq (.seq (.region [⟨(some 5), (.mv (.tmp 0)), none⟩, ⟨(some 6), (.nilc (.tmp 5)), none⟩, ⟨(some 7), (.fa (.tmp 6) 0), none⟩, ⟨(some 8), (.ld (.tmp 7) 1 false), none⟩, ⟨(some 9), (.bin .eql (.tmp 8) (.const (.int .i64 1))), none⟩] false) (.cond (.tmp 9) (.seq (.region [⟨(some 10), (.mv (.tmp 0)), none⟩, ⟨(some 11), (.nilc (.tmp 10)), none⟩, ⟨(some 12), (.fa (.tmp 11) 1), none⟩, ⟨(some 13), (.ld (.tmp 12) 1 false), none⟩, ⟨(some 14), (.bin .add (.tmp 13) (.const (.int .i64 1))), none⟩, ⟨(some 2), (.mv (.tmp 14)), none⟩] false) .ret) .skip)) (.seq (.region [⟨(some 3), (.mv (.const (.int .i64 0))), none⟩] false) (.seq (.seq (.region [⟨(some 15), (.mv (.tmp 0)), none⟩, ⟨(some 16), (.nilc (.tmp 15)), none⟩, ⟨(some 17), (.fa (.tmp 16) 4), none⟩, ⟨(some 18), (.ld (.tmp 17) 1 false), none⟩, ⟨(some 19), (.len (.tmp 18) false), none⟩, ⟨(some 20), (.mv (.const (.int .i64 0))), none⟩] false) (.block 0 (.loop (.seq (.region [⟨(some 21), (.bin .lss (.tmp 20) (.tmp 19)), none⟩] false) (.seq (.cond (.tmp 21) .skip (.exit 0)) (.seq (.block 1 (.seq (.region [⟨(some 22), (.mv (.tmp 20)), none⟩, ⟨(some 4), (.mv (.tmp 22)), none⟩] false) (.region [⟨(some 23), (.mv (.tmp 3)), none⟩, ⟨(some 24), (.mv (.tmp 0)), none⟩, ⟨(some 25), (.nilc (.tmp 24)), none⟩, ⟨(some 26), (.fa (.tmp 25) 4), none⟩, ⟨(some 27), (.ld (.tmp 26) 1 false), none⟩, ⟨(some 28), (.mv (.tmp 4)), none⟩, ⟨(some 29), (.ia (.tmp 27) (.tmp 28) 5 false), none⟩, ⟨(some 30), (.call F.term_loose [(.tmp 29)]), none⟩, ⟨(some 31), (.mv (.tmp 0)), none⟩, ⟨(some 32), (.mv (.tmp 4)), none⟩, ⟨(some 33), (.call F.term_deeper [(.tmp 31), (.tmp 32)]), none⟩, ⟨(some 34), (.bin .sub (.tmp 30) (.tmp 33)), none⟩, ⟨(some 35), (.mm true [(.tmp 23), (.tmp 34)]), none⟩, ⟨(some 3), (.mv (.tmp 35)), none⟩] false))) (.region [⟨(some 36), (.bin .add (.tmp 20) (.const (.int .i64 1))), none⟩, ⟨(some 20), (.mv (.tmp 36)), none⟩] false))))))) (.seq (.region [⟨(some 37), (.mv (.tmp 3)), none⟩, ⟨(some 2), (.mv (.tmp 37)), none⟩] false) .ret)))))
theorem is_term_loose : FnIs Try.prog ⟨[], [], [], []⟩ F.term_loose 38 mc_term_loose [(.tmp 2)] :=
  ⟨by kernel_rfl, _, _, Try.func70, rfl, by decide, rfl, by kernel_rfl, by kernel_rfl⟩
def mc_term_clone : MCode :=
  (.seq (.region [⟨(some 2), (.al [(.int .i64 0), (.int .i64 0), (.string ⟨#[]⟩), (.slice none 0 0), (.slice none 0 0)]), none⟩] false) (.seq (.region [⟨(some 3), (.al [(.int .i64 0), (.int .i64 0), (.string ⟨#[]⟩), (.slice none 0 0), (.slice none 0 0)]), none⟩] false) (.seq (.region [⟨(some 4), (.mv (.tmp 0)), none⟩, ⟨(some 5), (.call F.term_copyTo [(.tmp 3), (.tmp 4)]), none⟩] false) (.seq (.region [⟨(some 6), (.ld (.tmp 3) 5 true), none⟩, ⟨none, (.st (.tmp 2) (.tmp 6) 5 true), none⟩] false) .ret))))
theorem is_term_clone : FnIs Try.prog ⟨[], [2], [], []⟩ F.term_clone 7 mc_term_clone [(.cell 2 5 true)] :=
  ⟨by kernel_rfl, _, _, Try.func71, rfl, by decide, rfl, by kernel_rfl, by kernel_rfl⟩
def mc_term_raise : MCode :=
  (.seq (.seq (.region [⟨(some 7), (.mv (.tmp 0)), none⟩, ⟨(some 8), (.nilc (.tmp 7)), none⟩, ⟨(some 9), (.fa (.tmp 8) 0), none⟩, ⟨(some 10), (.ld (.tmp 9) 1 false), none⟩, ⟨(some 11), (.bin .eql (.tmp 10) (.const (.int .i64 1))), none⟩, ⟨(some 12), (.mv (.tmp 11)), none⟩, ⟨(some 13), (.mv (.tmp 0)), (some (12, true))⟩, ⟨(some 14), (.nilc (.tmp 13)), (some (12, true))⟩, ⟨(some 15), (.fa (.tmp 14) 1), (some (12, true))⟩, ⟨(some 16), (.ld (.tmp 15) 1 false), (some (12, true))⟩, ⟨(some 17), (.mv (.tmp 2)), (some (12, true))⟩, ⟨(some 18), (.bin .geq (.tmp 16) (.tmp 17)), (some (12, true))⟩, ⟨(some 19), (.pick (.tmp 12) (.tmp 18) (.const (.bool false))), none⟩] false) (.cond (.tmp 19) (.region [⟨(some 20), (.mv (.tmp 0)), none⟩, ⟨(some 21), (.nilc (.tmp 20)), none⟩, ⟨(some 22), (.fa (.tmp 21) 1), none⟩, ⟨(some 23), (.ld (.tmp 22) 1 false), none⟩, ⟨(some 24), (.mv (.tmp 1)), none⟩, ⟨(some 25), (.bin .add (.tmp 23) (.tmp 24)), none⟩, ⟨(some 26), (.nilc (.tmp 20)), none⟩, ⟨(some 27), (.fa (.tmp 26) 1), none⟩, ⟨none, (.st (.tmp 27) (.tmp 25) 1 false), none⟩] false) .skip)) (.seq (.region [⟨(some 28), (.mv (.tmp 0)), none⟩, ⟨(some 29), (.nilc (.tmp 28)), none⟩, ⟨(some 30), (.fa (.tmp 29) 4), none⟩, ⟨(some 31), (.ld (.tmp 30) 1 false), none⟩, ⟨(some 32), (.len (.tmp 31) false), none⟩, ⟨(some 33), (.mv (.const (.int .i64 0))), none⟩] false) (.block 0 (.loop (.seq (.region [⟨(some 34), (.bin .lss (.tmp 33) (.tmp 32)), none⟩] false) (.seq (.cond (.tmp 34) .skip (.exit 0)) (.seq (.block 1 (.seq (.region [⟨(some 35), (.mv (.tmp 33)), none⟩, ⟨(some 6), (.mv (.tmp 35)), none⟩] false) (.region [⟨(some 36), (.mv (.tmp 0)), none⟩, ⟨(some 37), (.nilc (.tmp 36)), none⟩, ⟨(some 38), (.fa (.tmp 37) 4), none⟩, ⟨(some 39), (.ld (.tmp 38) 1 false), none⟩, ⟨(some 40), (.mv (.tmp 6)), none⟩, ⟨(some 41), (.ia (.tmp 39) (.tmp 40) 5 false), none⟩, ⟨(some 42), (.mv (.tmp 1)), none⟩, ⟨(some 43), (.mv (.tmp 2)), none⟩, ⟨(some 44), (.mv (.tmp 0)), none⟩, ⟨(some 45), (.mv (.tmp 6)), none⟩, ⟨(some 46), (.call F.term_deeper [(.tmp 44), (.tmp 45)]), none⟩, ⟨(some 47), (.bin .add (.tmp 43) (.tmp 46)), none⟩, ⟨(some 48), (.callm F.term_raise [(.tmp 41), (.tmp 42), (.tmp 47)]), none⟩] true))) (.region [⟨(some 49), (.bin .add (.tmp 33) (.const (.int .i64 1))), none⟩, ⟨(some 33), (.mv (.tmp 49)), none⟩] false))))))))
theorem is_term_raise : FnIs Try.prog ⟨[], [], [48], []⟩ F.term_raise 50 mc_term_raise [] :=
  ⟨by kernel_rfl, _, _, Try.func72, rfl, by decide, rfl, by kernel_rfl, by kernel_rfl⟩
def mc_term_made : MCode :=
  (.seq (.region [⟨(some 4), (.al [(.int .i64 0), (.int .i64 0), (.string ⟨#[]⟩), (.slice none 0 0), (.slice none 0 0)]), none⟩] false) (.seq (.region [⟨(some 5), (.mv (.tmp 0)), none⟩, ⟨(some 6), (.mv (.tmp 1)), none⟩, ⟨(some 7), (.bld [(.int .i64 0), (.int .i64 0), (.string ⟨#[]⟩), (.slice none 0 0), (.slice none 0 0)] [(0, (1, (.tmp 5))), (4, (1, (.tmp 6)))]), none⟩, ⟨none, (.st (.tmp 4) (.tmp 7) 5 true), none⟩] false) .ret))
theorem is_term_made : FnIs Try.prog ⟨[], [4], [], []⟩ F.term_made 8 mc_term_made [(.cell 4 5 true)] :=
  ⟨by kernel_rfl, _, _, Try.func73, rfl, by decide, rfl, by kernel_rfl, by kernel_rfl⟩
def mc_term_formed : MCode :=
  (.seq (.region [⟨(some 6), (.mv (.const (.bool false))), none⟩] false) (.seq (.seq (.region [⟨(some 7), (.mv (.tmp 0)), none⟩, ⟨(some 8), (.nilc (.tmp 7)), none⟩, ⟨(some 9), (.fa (.tmp 8) 0), none⟩, ⟨(some 10), (.ld (.tmp 9) 1 false), none⟩] false) (.block 0 (.seq (.region [⟨(some 12), (.bin .eql (.tmp 10) (.const (.int .i64 1))), none⟩, ⟨(some 11), (.mv (.tmp 12)), none⟩] false) (.cond (.tmp 11) (.seq (.region [⟨(some 13), (.mv (.tmp 0)), none⟩, ⟨(some 14), (.nilc (.tmp 13)), none⟩, ⟨(some 15), (.fa (.tmp 14) 1), none⟩, ⟨(some 16), (.ld (.tmp 15) 1 false), none⟩, ⟨(some 17), (.bin .geq (.tmp 16) (.const (.int .i64 0))), none⟩, ⟨(some 18), (.mv (.tmp 17)), none⟩, ⟨(some 19), (.mv (.tmp 0)), (some (18, true))⟩, ⟨(some 20), (.nilc (.tmp 19)), (some (18, true))⟩, ⟨(some 21), (.fa (.tmp 20) 1), (some (18, true))⟩, ⟨(some 22), (.ld (.tmp 21) 1 false), (some (18, true))⟩, ⟨(some 23), (.mv (.tmp 2)), (some (18, true))⟩, ⟨(some 24), (.bin .lss (.tmp 22) (.tmp 23)), (some (18, true))⟩, ⟨(some 25), (.pick (.tmp 18) (.tmp 24) (.const (.bool false))), none⟩, ⟨(some 26), (.mv (.tmp 25)), none⟩, ⟨(some 27), (.mv (.tmp 0)), (some (26, true))⟩, ⟨(some 28), (.mv (.tmp 0)), (some (26, true))⟩, ⟨(some 29), (.nilc (.tmp 28)), (some (26, true))⟩, ⟨(some 30), (.fa (.tmp 29) 1), (some (26, true))⟩, ⟨(some 31), (.ld (.tmp 30) 1 false), (some (26, true))⟩, ⟨(some 32), (.call F.term_has [(.tmp 27), (.tmp 31), (.const (.int .i64 0)), (.const (.int .i64 0))]), (some (26, true))⟩, ⟨(some 33), (.pick (.tmp 26) (.tmp 32) (.const (.bool false))), none⟩, ⟨(some 6), (.mv (.tmp 33)), none⟩] false) .ret) (.seq (.region [⟨(some 35), (.bin .eql (.tmp 10) (.const (.int .i64 2))), none⟩, ⟨(some 34), (.mv (.tmp 35)), none⟩] false) (.cond (.tmp 34) (.seq (.region [⟨(some 36), (.mv (.tmp 0)), none⟩, ⟨(some 37), (.call F.term_has [(.tmp 36), (.const (.int .i64 0)), (.const (.int .i64 1)), (.const (.int .i64 0))]), none⟩, ⟨(some 38), (.mv (.tmp 37)), none⟩, ⟨(some 39), (.mv (.tmp 0)), (some (38, true))⟩, ⟨(some 40), (.nilc (.tmp 39)), (some (38, true))⟩, ⟨(some 41), (.fa (.tmp 40) 3), (some (38, true))⟩, ⟨(some 42), (.ld (.tmp 41) 1 false), (some (38, true))⟩, ⟨(some 43), (.ia (.tmp 42) (.const (.int .i64 0)) 3 false), (some (38, true))⟩, ⟨(some 44), (.ld (.tmp 43) 3 true), (some (38, true))⟩, ⟨(some 45), (.mv (.tmp 1)), (some (38, true))⟩, ⟨(some 46), (.call F.level_Right [(.tmp 44), (.tmp 45)]), (some (38, true))⟩, ⟨(some 47), (.pick (.tmp 38) (.tmp 46) (.const (.bool false))), none⟩, ⟨(some 6), (.mv (.tmp 47)), none⟩] false) .ret) (.seq (.region [⟨(some 49), (.bin .eql (.tmp 10) (.const (.int .i64 3))), none⟩, ⟨(some 48), (.mv (.tmp 49)), none⟩] false) (.cond (.tmp 48) (.seq (.region [⟨(some 50), (.mv (.tmp 0)), none⟩, ⟨(some 51), (.mv (.tmp 1)), none⟩, ⟨(some 52), (.call F.term_constant [(.tmp 50), (.tmp 51)]), none⟩, ⟨(some 6), (.mv (.tmp 52)), none⟩] false) .ret) (.seq (.seq (.region [⟨(some 54), (.bin .eql (.tmp 10) (.const (.int .i64 4))), none⟩, ⟨(some 53), (.mv (.tmp 54)), none⟩] false) (.cond (.tmp 53) .skip (.seq (.region [⟨(some 55), (.bin .eql (.tmp 10) (.const (.int .i64 5))), none⟩, ⟨(some 53), (.mv (.tmp 55)), none⟩] false) (.cond (.tmp 53) .skip (.region [⟨(some 56), (.bin .eql (.tmp 10) (.const (.int .i64 6))), none⟩, ⟨(some 53), (.mv (.tmp 56)), none⟩] false))))) (.cond (.tmp 53) (.seq (.region [⟨(some 57), (.mv (.tmp 0)), none⟩, ⟨(some 58), (.call F.term_has [(.tmp 57), (.const (.int .i64 0)), (.const (.int .i64 0)), (.const (.int .i64 2))]), none⟩, ⟨(some 59), (.mv (.tmp 58)), none⟩, ⟨(some 60), (.mv (.tmp 0)), (some (59, true))⟩, ⟨(some 61), (.mv (.tmp 1)), (some (59, true))⟩, ⟨(some 62), (.mv (.tmp 2)), (some (59, true))⟩, ⟨(some 63), (.call F.term_parts [(.tmp 60), (.tmp 61), (.tmp 62)]), (some (59, true))⟩, ⟨(some 64), (.pick (.tmp 59) (.tmp 63) (.const (.bool false))), none⟩, ⟨(some 6), (.mv (.tmp 64)), none⟩] false) .ret) (.seq (.region [⟨(some 66), (.bin .eql (.tmp 10) (.const (.int .i64 7))), none⟩, ⟨(some 65), (.mv (.tmp 66)), none⟩] false) (.cond (.tmp 65) (.seq (.region [⟨(some 67), (.mv (.tmp 0)), none⟩, ⟨(some 68), (.call F.term_has [(.tmp 67), (.const (.int .i64 0)), (.const (.int .i64 0)), (.const (.int .i64 3))]), none⟩, ⟨(some 69), (.mv (.tmp 68)), none⟩, ⟨(some 70), (.mv (.tmp 0)), (some (69, true))⟩, ⟨(some 71), (.mv (.tmp 1)), (some (69, true))⟩, ⟨(some 72), (.mv (.tmp 2)), (some (69, true))⟩, ⟨(some 73), (.call F.term_parts [(.tmp 70), (.tmp 71), (.tmp 72)]), (some (69, true))⟩, ⟨(some 74), (.pick (.tmp 69) (.tmp 73) (.const (.bool false))), none⟩, ⟨(some 6), (.mv (.tmp 74)), none⟩] false) .ret) .skip)))))))))))) (.seq (.region [⟨(some 6), (.mv (.const (.bool false))), none⟩] false) .ret)))
theorem is_term_formed : FnIs Try.prog ⟨[], [], [], []⟩ F.term_formed 75 mc_term_formed [(.tmp 6)] :=
  ⟨by kernel_rfl, _, _, Try.func75, rfl, by decide, rfl, by kernel_rfl, by kernel_rfl⟩
def mc_term_bound : MCode :=
  (.seq (.region [⟨(some 4), (.bx (.tmp 1) false), none⟩, ⟨(some 6), (.al [(.int .i64 0), (.int .i64 0), (.string ⟨#[]⟩), (.slice none 0 0), (.slice none 0 0)]), none⟩] false) (.seq (.region [⟨(some 9), (.call F.term_clone [(.tmp 4)]), none⟩, ⟨(some 7), (.al [(.int .i64 0), (.int .i64 0), (.string ⟨#[]⟩), (.slice none 0 0), (.slice none 0 0)]), none⟩, ⟨none, (.st (.tmp 7) (.tmp 9) 5 false), none⟩] false) (.seq (.seq (.region [⟨(some 10), (.mv (.tmp 2)), none⟩, ⟨(some 11), (.len (.tmp 10) false), none⟩, ⟨(some 12), (.bin .sub (.tmp 11) (.const (.int .i64 1))), none⟩, ⟨(some 8), (.mv (.tmp 12)), none⟩] false) (.block 0 (.loop (.seq (.seq (.region [⟨(some 13), (.mv (.tmp 8)), none⟩, ⟨(some 14), (.bin .geq (.tmp 13) (.const (.int .i64 0))), none⟩] false) (.cond (.tmp 14) .skip (.exit 0))) (.seq (.block 1 (.region [⟨(some 17), (.mv (.tmp 0)), none⟩, ⟨(some 18), (.mv (.tmp 2)), none⟩, ⟨(some 19), (.mv (.tmp 8)), none⟩, ⟨(some 20), (.ia (.tmp 18) (.tmp 19) 5 false), none⟩, ⟨(some 21), (.call F.term_clone [(.tmp 20)]), none⟩, ⟨(some 22), (.ld (.tmp 7) 5 true), none⟩, ⟨(some 23), (.bsl 5 2 [(.int .i64 0), (.int .i64 0), (.string ⟨#[]⟩), (.slice none 0 0), (.slice none 0 0)] [(0, (5, (.tmp 21))), (5, (5, (.tmp 22)))] false), none⟩, ⟨(some 24), (.callm F.term_made [(.tmp 17), (.tmp 23)]), none⟩, ⟨none, (.st (.tmp 7) (.tmp 24) 5 false), none⟩] true)) (.region [⟨(some 15), (.mv (.tmp 8)), none⟩, ⟨(some 16), (.bin .sub (.tmp 15) (.const (.int .i64 1))), none⟩, ⟨(some 8), (.mv (.tmp 16)), none⟩] false)))))) (.seq (.region [⟨(some 25), (.ld (.tmp 7) 5 true), none⟩, ⟨none, (.st (.tmp 6) (.tmp 25) 5 true), none⟩] false) .ret))))
theorem is_term_bound : FnIs Try.prog ⟨[], [6], [24], []⟩ F.term_bound 26 mc_term_bound [(.cell 6 5 true)] :=
  ⟨by kernel_rfl, _, _, Try.func76, rfl, by decide, rfl, by kernel_rfl, by kernel_rfl⟩
def mc_term_applied : MCode :=
  (.seq (.region [⟨(some 2), (.mv (.const (.bool false))), none⟩] false) (.seq (.region [⟨(some 3), (.mv (.tmp 0)), none⟩, ⟨(some 4), (.nilc (.tmp 3)), none⟩, ⟨(some 5), (.fa (.tmp 4) 0), none⟩, ⟨(some 6), (.ld (.tmp 5) 1 false), none⟩, ⟨(some 7), (.bin .eql (.tmp 6) (.const (.int .i64 4))), none⟩, ⟨(some 8), (.mv (.tmp 7)), none⟩, ⟨(some 9), (.mv (.tmp 0)), (some (8, true))⟩, ⟨(some 10), (.nilc (.tmp 9)), (some (8, true))⟩, ⟨(some 11), (.fa (.tmp 10) 4), (some (8, true))⟩, ⟨(some 12), (.ld (.tmp 11) 1 false), (some (8, true))⟩, ⟨(some 13), (.len (.tmp 12) false), (some (8, true))⟩, ⟨(some 14), (.bin .eql (.tmp 13) (.const (.int .i64 2))), (some (8, true))⟩, ⟨(some 15), (.pick (.tmp 8) (.tmp 14) (.const (.bool false))), none⟩, ⟨(some 2), (.mv (.tmp 15)), none⟩] false) .ret))
theorem is_term_applied : FnIs Try.prog ⟨[], [], [], []⟩ F.term_applied 16 mc_term_applied [(.tmp 2)] :=
  ⟨by kernel_rfl, _, _, Try.func77, rfl, by decide, rfl, by kernel_rfl, by kernel_rfl⟩
def mc_term_copyTo : MCode :=
  (.seq (.region [⟨(some 5), (.mv (.tmp 0)), none⟩, ⟨(some 6), (.mv (.tmp 0)), none⟩, ⟨(some 7), (.mv (.tmp 0)), none⟩, ⟨(some 8), (.mv (.tmp 0)), none⟩, ⟨(some 9), (.mv (.tmp 1)), none⟩, ⟨(some 10), (.nilc (.tmp 9)), none⟩, ⟨(some 11), (.fa (.tmp 10) 0), none⟩, ⟨(some 12), (.ld (.tmp 11) 1 false), none⟩, ⟨(some 13), (.mv (.tmp 1)), none⟩, ⟨(some 14), (.nilc (.tmp 13)), none⟩, ⟨(some 15), (.fa (.tmp 14) 1), none⟩, ⟨(some 16), (.ld (.tmp 15) 1 false), none⟩, ⟨(some 17), (.mv (.tmp 1)), none⟩, ⟨(some 18), (.nilc (.tmp 17)), none⟩, ⟨(some 19), (.fa (.tmp 18) 2), none⟩, ⟨(some 20), (.ld (.tmp 19) 1 false), none⟩, ⟨(some 21), (.mv (.tmp 1)), none⟩, ⟨(some 22), (.nilc (.tmp 21)), none⟩, ⟨(some 23), (.fa (.tmp 22) 3), none⟩, ⟨(some 24), (.ld (.tmp 23) 1 false), none⟩, ⟨(some 25), (.call F.term_cloneLevels [(.tmp 24)]), none⟩, ⟨(some 26), (.nilc (.tmp 5)), none⟩, ⟨(some 27), (.fa (.tmp 26) 0), none⟩, ⟨none, (.st (.tmp 27) (.tmp 12) 1 false), none⟩, ⟨(some 28), (.nilc (.tmp 6)), none⟩, ⟨(some 29), (.fa (.tmp 28) 1), none⟩, ⟨none, (.st (.tmp 29) (.tmp 16) 1 false), none⟩, ⟨(some 30), (.nilc (.tmp 7)), none⟩, ⟨(some 31), (.fa (.tmp 30) 2), none⟩, ⟨none, (.st (.tmp 31) (.tmp 20) 1 false), none⟩, ⟨(some 32), (.nilc (.tmp 8)), none⟩, ⟨(some 33), (.fa (.tmp 32) 3), none⟩, ⟨none, (.st (.tmp 33) (.tmp 25) 1 false), none⟩] true) (.seq (.seq (.region [⟨(some 34), (.mv (.tmp 1)), none⟩, ⟨(some 35), (.nilc (.tmp 34)), none⟩, ⟨(some 36), (.fa (.tmp 35) 4), none⟩, ⟨(some 37), (.ld (.tmp 36) 1 false), none⟩, ⟨(some 38), (.len (.tmp 37) false), none⟩, ⟨(some 39), (.bin .gtr (.tmp 38) (.const (.int .i64 0))), none⟩] false) (.cond (.tmp 39) (.region [⟨(some 40), (.mv (.tmp 0)), none⟩, ⟨(some 41), (.mv (.tmp 1)), none⟩, ⟨(some 42), (.nilc (.tmp 41)), none⟩, ⟨(some 43), (.fa (.tmp 42) 4), none⟩, ⟨(some 44), (.ld (.tmp 43) 1 false), none⟩, ⟨(some 45), (.len (.tmp 44) false), none⟩, ⟨(some 46), (.mks 5 80 [(.int .i64 0), (.int .i64 0), (.string ⟨#[]⟩), (.slice none 0 0), (.slice none 0 0)] (.tmp 45) (.tmp 45)), none⟩, ⟨(some 47), (.nilc (.tmp 40)), none⟩, ⟨(some 48), (.fa (.tmp 47) 4), none⟩, ⟨none, (.st (.tmp 48) (.tmp 46) 1 false), none⟩] false) .skip)) (.seq (.region [⟨(some 49), (.mv (.tmp 1)), none⟩, ⟨(some 50), (.nilc (.tmp 49)), none⟩, ⟨(some 51), (.fa (.tmp 50) 4), none⟩, ⟨(some 52), (.ld (.tmp 51) 1 false), none⟩, ⟨(some 53), (.len (.tmp 52) false), none⟩, ⟨(some 54), (.mv (.const (.int .i64 0))), none⟩] false) (.block 0 (.loop (.seq (.region [⟨(some 55), (.bin .lss (.tmp 54) (.tmp 53)), none⟩] false) (.seq (.cond (.tmp 55) .skip (.exit 0)) (.seq (.block 1 (.seq (.region [⟨(some 56), (.mv (.tmp 54)), none⟩, ⟨(some 4), (.mv (.tmp 56)), none⟩] false) (.region [⟨(some 57), (.mv (.tmp 0)), none⟩, ⟨(some 58), (.nilc (.tmp 57)), none⟩, ⟨(some 59), (.fa (.tmp 58) 4), none⟩, ⟨(some 60), (.ld (.tmp 59) 1 false), none⟩, ⟨(some 61), (.mv (.tmp 4)), none⟩, ⟨(some 62), (.ia (.tmp 60) (.tmp 61) 5 false), none⟩, ⟨(some 63), (.mv (.tmp 1)), none⟩, ⟨(some 64), (.nilc (.tmp 63)), none⟩, ⟨(some 65), (.fa (.tmp 64) 4), none⟩, ⟨(some 66), (.ld (.tmp 65) 1 false), none⟩, ⟨(some 67), (.mv (.tmp 4)), none⟩, ⟨(some 68), (.ia (.tmp 66) (.tmp 67) 5 false), none⟩, ⟨(some 69), (.callm F.term_copyTo [(.tmp 62), (.tmp 68)]), none⟩] true))) (.region [⟨(some 70), (.bin .add (.tmp 54) (.const (.int .i64 1))), none⟩, ⟨(some 54), (.mv (.tmp 70)), none⟩] false)))))))))
theorem is_term_copyTo : FnIs Try.prog ⟨[], [], [69], []⟩ F.term_copyTo 71 mc_term_copyTo [] :=
  ⟨by kernel_rfl, _, _, Try.func78, rfl, by decide, rfl, by kernel_rfl, by kernel_rfl⟩
def mc_term_all : MCode :=
  (.seq (.region [⟨(some 1), (.bx (.tmp 0) false), none⟩, ⟨(some 2), (.mv (.const .nilFunc)), none⟩] false) (.seq (.region [⟨(some 3), (.mkf F.term_all_1 [(.tmp 1)]), none⟩, ⟨(some 2), (.mv (.tmp 3)), none⟩] false) .ret))
theorem is_term_all : FnIs Try.prog ⟨[], [], [], []⟩ F.term_all 4 mc_term_all [(.tmp 2)] :=
  ⟨by kernel_rfl, _, _, Try.func79, rfl, by decide, rfl, by kernel_rfl, by kernel_rfl⟩
def mc_term_levelNodes : MCode :=
  (.seq (.region [⟨(some 4), (.mv (.const (.int .i64 0))), none⟩] false) (.seq (.region [⟨(some 5), (.mv (.const (.int .i64 1))), none⟩] false) (.seq (.seq (.region [⟨(some 7), (.mv (.tmp 0)), none⟩, ⟨(some 8), (.nilc (.tmp 7)), none⟩, ⟨(some 9), (.fa (.tmp 8) 2), none⟩, ⟨(some 10), (.ld (.tmp 9) 1 false), none⟩, ⟨(some 11), (.len (.tmp 10) false), none⟩, ⟨(some 12), (.mv (.const (.int .i64 0))), none⟩] false) (.block 0 (.loop (.seq (.region [⟨(some 13), (.bin .lss (.tmp 12) (.tmp 11)), none⟩] false) (.seq (.cond (.tmp 13) .skip (.exit 0)) (.seq (.block 1 (.seq (.region [⟨(some 14), (.mv (.tmp 12)), none⟩, ⟨(some 6), (.mv (.tmp 14)), none⟩] false) (.seq (.seq (.region [⟨(some 15), (.mv (.tmp 5)), none⟩, ⟨(some 16), (.mv (.tmp 1)), none⟩, ⟨(some 17), (.bin .geq (.tmp 15) (.tmp 16)), none⟩] false) (.cond (.tmp 17) (.seq (.region [⟨(some 18), (.mv (.tmp 1)), none⟩, ⟨(some 4), (.mv (.tmp 18)), none⟩] false) .ret) .skip)) (.region [⟨(some 19), (.mv (.tmp 5)), none⟩, ⟨(some 20), (.mv (.tmp 0)), none⟩, ⟨(some 21), (.nilc (.tmp 20)), none⟩, ⟨(some 22), (.fa (.tmp 21) 2), none⟩, ⟨(some 23), (.ld (.tmp 22) 1 false), none⟩, ⟨(some 24), (.mv (.tmp 6)), none⟩, ⟨(some 25), (.ia (.tmp 23) (.tmp 24) 3 false), none⟩, ⟨(some 26), (.mv (.tmp 1)), none⟩, ⟨(some 27), (.mv (.tmp 5)), none⟩, ⟨(some 28), (.bin .sub (.tmp 26) (.tmp 27)), none⟩, ⟨(some 29), (.call F.term_levelNodes [(.tmp 25), (.tmp 28)]), none⟩, ⟨(some 30), (.bin .add (.tmp 19) (.tmp 29)), none⟩, ⟨(some 5), (.mv (.tmp 30)), none⟩] false)))) (.region [⟨(some 31), (.bin .add (.tmp 12) (.const (.int .i64 1))), none⟩, ⟨(some 12), (.mv (.tmp 31)), none⟩] false))))))) (.seq (.region [⟨(some 32), (.mv (.tmp 5)), none⟩, ⟨(some 4), (.mv (.tmp 32)), none⟩] false) .ret))))
theorem is_term_levelNodes : FnIs Try.prog ⟨[], [], [], []⟩ F.term_levelNodes 33 mc_term_levelNodes [(.tmp 4)] :=
  ⟨by kernel_rfl, _, _, Try.func80, rfl, by decide, rfl, by kernel_rfl, by kernel_rfl⟩
def mc_term_same : MCode :=
  (.seq (.region [⟨(some 4), (.mv (.const (.bool false))), none⟩] false) (.seq (.seq (.region [⟨(some 6), (.mv (.tmp 0)), none⟩, ⟨(some 7), (.nilc (.tmp 6)), none⟩, ⟨(some 8), (.fa (.tmp 7) 0), none⟩, ⟨(some 9), (.ld (.tmp 8) 1 false), none⟩, ⟨(some 10), (.mv (.tmp 1)), none⟩, ⟨(some 11), (.nilc (.tmp 10)), none⟩, ⟨(some 12), (.fa (.tmp 11) 0), none⟩, ⟨(some 13), (.ld (.tmp 12) 1 false), none⟩, ⟨(some 14), (.bin .neq (.tmp 9) (.tmp 13)), none⟩, ⟨(some 15), (.mv (.tmp 14)), none⟩, ⟨(some 16), (.mv (.tmp 0)), (some (15, false))⟩, ⟨(some 17), (.nilc (.tmp 16)), (some (15, false))⟩, ⟨(some 18), (.fa (.tmp 17) 1), (some (15, false))⟩, ⟨(some 19), (.ld (.tmp 18) 1 false), (some (15, false))⟩, ⟨(some 20), (.mv (.tmp 1)), (some (15, false))⟩, ⟨(some 21), (.nilc (.tmp 20)), (some (15, false))⟩, ⟨(some 22), (.fa (.tmp 21) 1), (some (15, false))⟩, ⟨(some 23), (.ld (.tmp 22) 1 false), (some (15, false))⟩, ⟨(some 24), (.bin .neq (.tmp 19) (.tmp 23)), (some (15, false))⟩, ⟨(some 25), (.pick (.tmp 15) (.const (.bool true)) (.tmp 24)), none⟩, ⟨(some 26), (.mv (.tmp 25)), none⟩, ⟨(some 27), (.mv (.tmp 0)), (some (26, false))⟩, ⟨(some 28), (.nilc (.tmp 27)), (some (26, false))⟩, ⟨(some 29), (.fa (.tmp 28) 2), (some (26, false))⟩, ⟨(some 30), (.ld (.tmp 29) 1 false), (some (26, false))⟩, ⟨(some 31), (.mv (.tmp 1)), (some (26, false))⟩, ⟨(some 32), (.nilc (.tmp 31)), (some (26, false))⟩, ⟨(some 33), (.fa (.tmp 32) 2), (some (26, false))⟩, ⟨(some 34), (.ld (.tmp 33) 1 false), (some (26, false))⟩, ⟨(some 35), (.bin .neq (.tmp 30) (.tmp 34)), (some (26, false))⟩, ⟨(some 36), (.pick (.tmp 26) (.const (.bool true)) (.tmp 35)), none⟩, ⟨(some 37), (.mv (.tmp 36)), none⟩, ⟨(some 38), (.mv (.tmp 0)), (some (37, false))⟩, ⟨(some 39), (.nilc (.tmp 38)), (some (37, false))⟩, ⟨(some 40), (.fa (.tmp 39) 4), (some (37, false))⟩, ⟨(some 41), (.ld (.tmp 40) 1 false), (some (37, false))⟩, ⟨(some 42), (.len (.tmp 41) false), (some (37, false))⟩, ⟨(some 43), (.mv (.tmp 1)), (some (37, false))⟩, ⟨(some 44), (.nilc (.tmp 43)), (some (37, false))⟩, ⟨(some 45), (.fa (.tmp 44) 4), (some (37, false))⟩, ⟨(some 46), (.ld (.tmp 45) 1 false), (some (37, false))⟩, ⟨(some 47), (.len (.tmp 46) false), (some (37, false))⟩, ⟨(some 48), (.bin .neq (.tmp 42) (.tmp 47)), (some (37, false))⟩, ⟨(some 49), (.pick (.tmp 37) (.const (.bool true)) (.tmp 48)), none⟩, ⟨(some 50), (.mv (.tmp 49)), none⟩, ⟨(some 51), (.mv (.tmp 0)), (some (50, false))⟩, ⟨(some 52), (.nilc (.tmp 51)), (some (50, false))⟩, ⟨(some 53), (.fa (.tmp 52) 3), (some (50, false))⟩, ⟨(some 54), (.ld (.tmp 53) 1 false), (some (50, false))⟩, ⟨(some 55), (.mv (.tmp 1)), (some (50, false))⟩, ⟨(some 56), (.nilc (.tmp 55)), (some (50, false))⟩, ⟨(some 57), (.fa (.tmp 56) 3), (some (50, false))⟩, ⟨(some 58), (.ld (.tmp 57) 1 false), (some (50, false))⟩, ⟨(some 59), (.callm F.term_sameLevels [(.tmp 54), (.tmp 58)]), (some (50, false))⟩, ⟨(some 60), (.un .not (.tmp 59)), (some (50, false))⟩, ⟨(some 61), (.pick (.tmp 50) (.const (.bool true)) (.tmp 60)), none⟩] true) (.cond (.tmp 61) (.seq (.region [⟨(some 4), (.mv (.const (.bool false))), none⟩] false) .ret) .skip)) (.seq (.seq (.region [⟨(some 62), (.mv (.tmp 0)), none⟩, ⟨(some 63), (.nilc (.tmp 62)), none⟩, ⟨(some 64), (.fa (.tmp 63) 4), none⟩, ⟨(some 65), (.ld (.tmp 64) 1 false), none⟩, ⟨(some 66), (.len (.tmp 65) false), none⟩, ⟨(some 67), (.bin .gtr (.tmp 66) (.const (.int .i64 0))), none⟩, ⟨(some 68), (.mv (.tmp 67)), none⟩, ⟨(some 69), (.mv (.tmp 0)), (some (68, true))⟩, ⟨(some 70), (.nilc (.tmp 69)), (some (68, true))⟩, ⟨(some 71), (.fa (.tmp 70) 4), (some (68, true))⟩, ⟨(some 72), (.ld (.tmp 71) 1 false), (some (68, true))⟩, ⟨(some 73), (.ia (.tmp 72) (.const (.int .i64 0)) 5 true), (some (68, true))⟩, ⟨(some 74), (.mv (.tmp 1)), (some (68, true))⟩, ⟨(some 75), (.nilc (.tmp 74)), (some (68, true))⟩, ⟨(some 76), (.fa (.tmp 75) 4), (some (68, true))⟩, ⟨(some 77), (.ld (.tmp 76) 1 false), (some (68, true))⟩, ⟨(some 78), (.ia (.tmp 77) (.const (.int .i64 0)) 5 true), (some (68, true))⟩, ⟨(some 79), (.raw (.mk (some 79) (.binOp .eql 73 (.tmp 73) (.tmp 78) 73) 4 "term.go:155" #[(.mk 11 .data), (.mk 16 .data), (.mk 6 .guard)] (some (6, true)))), (some (68, true))⟩, ⟨(some 80), (.pick (.tmp 68) (.tmp 79) (.const (.bool false))), none⟩] true) (.cond (.tmp 80) (.seq (.region [⟨(some 4), (.mv (.const (.bool true))), none⟩] false) .ret) .skip)) (.seq (.seq (.region [⟨(some 81), (.mv (.tmp 0)), none⟩, ⟨(some 82), (.nilc (.tmp 81)), none⟩, ⟨(some 83), (.fa (.tmp 82) 4), none⟩, ⟨(some 84), (.ld (.tmp 83) 1 false), none⟩, ⟨(some 85), (.len (.tmp 84) false), none⟩, ⟨(some 86), (.mv (.const (.int .i64 0))), none⟩] false) (.block 0 (.loop (.seq (.region [⟨(some 87), (.bin .lss (.tmp 86) (.tmp 85)), none⟩] false) (.seq (.cond (.tmp 87) .skip (.exit 0)) (.seq (.block 1 (.seq (.region [⟨(some 88), (.mv (.tmp 86)), none⟩, ⟨(some 5), (.mv (.tmp 88)), none⟩] false) (.seq (.region [⟨(some 89), (.mv (.tmp 0)), none⟩, ⟨(some 90), (.nilc (.tmp 89)), none⟩, ⟨(some 91), (.fa (.tmp 90) 4), none⟩, ⟨(some 92), (.ld (.tmp 91) 1 false), none⟩, ⟨(some 93), (.mv (.tmp 5)), none⟩, ⟨(some 94), (.ia (.tmp 92) (.tmp 93) 5 false), none⟩, ⟨(some 95), (.mv (.tmp 1)), none⟩, ⟨(some 96), (.nilc (.tmp 95)), none⟩, ⟨(some 97), (.fa (.tmp 96) 4), none⟩, ⟨(some 98), (.ld (.tmp 97) 1 false), none⟩, ⟨(some 99), (.mv (.tmp 5)), none⟩, ⟨(some 100), (.ia (.tmp 98) (.tmp 99) 5 false), none⟩, ⟨(some 101), (.callm F.term_same [(.tmp 94), (.tmp 100)]), none⟩, ⟨(some 102), (.un .not (.tmp 101)), none⟩] true) (.cond (.tmp 102) (.seq (.region [⟨(some 4), (.mv (.const (.bool false))), none⟩] false) .ret) .skip)))) (.region [⟨(some 103), (.bin .add (.tmp 86) (.const (.int .i64 1))), none⟩, ⟨(some 86), (.mv (.tmp 103)), none⟩] false))))))) (.seq (.region [⟨(some 4), (.mv (.const (.bool true))), none⟩] false) .ret)))))
theorem is_term_same : FnIs Try.prog ⟨[], [], [59, 101], [73, 78]⟩ F.term_same 104 mc_term_same [(.tmp 4)] :=
  ⟨by kernel_rfl, _, _, Try.func81, rfl, by decide, rfl, by kernel_rfl, by kernel_rfl⟩
def mc_term_cloneLevels : MCode :=
  (.seq (.region [⟨(some 2), (.mv (.const (.slice none 0 0))), none⟩] false) (.seq (.seq (.region [⟨(some 5), (.mv (.tmp 0)), none⟩, ⟨(some 6), (.len (.tmp 5) false), none⟩, ⟨(some 7), (.bin .eql (.tmp 6) (.const (.int .i64 0))), none⟩] false) (.cond (.tmp 7) (.seq (.region [⟨(some 2), (.mv (.const (.slice none 0 0))), none⟩] false) .ret) .skip)) (.seq (.region [⟨(some 8), (.mv (.tmp 0)), none⟩, ⟨(some 9), (.len (.tmp 8) false), none⟩, ⟨(some 10), (.mks 3 40 [(.int .i64 0), (.int .i64 0), (.slice none 0 0)] (.tmp 9) (.tmp 9)), none⟩, ⟨(some 3), (.mv (.tmp 10)), none⟩] false) (.seq (.seq (.region [⟨(some 11), (.mv (.tmp 0)), none⟩, ⟨(some 12), (.len (.tmp 11) false), none⟩, ⟨(some 13), (.mv (.const (.int .i64 0))), none⟩] false) (.block 0 (.loop (.seq (.region [⟨(some 14), (.bin .lss (.tmp 13) (.tmp 12)), none⟩] false) (.seq (.cond (.tmp 14) .skip (.exit 0)) (.seq (.block 1 (.seq (.region [⟨(some 15), (.mv (.tmp 13)), none⟩, ⟨(some 4), (.mv (.tmp 15)), none⟩] false) (.region [⟨(some 16), (.mv (.tmp 3)), none⟩, ⟨(some 17), (.mv (.tmp 4)), none⟩, ⟨(some 18), (.mv (.tmp 0)), none⟩, ⟨(some 19), (.mv (.tmp 4)), none⟩, ⟨(some 20), (.ia (.tmp 18) (.tmp 19) 3 false), none⟩, ⟨(some 21), (.ld (.tmp 20) 3 true), none⟩, ⟨(some 22), (.bsl 3 1 [(.int .i64 0), (.int .i64 0), (.slice none 0 0)] [(0, (3, (.tmp 21)))] false), none⟩, ⟨(some 23), (.call F.level_Max [(.tmp 22)]), none⟩, ⟨(some 24), (.ia (.tmp 16) (.tmp 17) 3 false), none⟩, ⟨none, (.st (.tmp 24) (.tmp 23) 3 false), none⟩] false))) (.region [⟨(some 25), (.bin .add (.tmp 13) (.const (.int .i64 1))), none⟩, ⟨(some 13), (.mv (.tmp 25)), none⟩] false))))))) (.seq (.region [⟨(some 26), (.mv (.tmp 3)), none⟩, ⟨(some 2), (.mv (.tmp 26)), none⟩] false) .ret)))))
theorem is_term_cloneLevels : FnIs Try.prog ⟨[], [], [], []⟩ F.term_cloneLevels 27 mc_term_cloneLevels [(.tmp 2)] :=
  ⟨by kernel_rfl, _, _, Try.func105, rfl, by decide, rfl, by kernel_rfl, by kernel_rfl⟩
def mc_name_Sort : MCode :=
  (.seq (.region [⟨(some 2), (.mv (.const (.slice none 0 0))), none⟩] false) (.seq (.region [⟨(some 4), (.mv (.tmp 0)), none⟩, ⟨(some 5), (.callm F.slices_Clone_string_string [(.tmp 4)]), none⟩, ⟨(some 3), (.mv (.tmp 5)), none⟩] false) (.seq (.region [⟨(some 6), (.mv (.tmp 3)), none⟩, ⟨(some 7), (.callm F.slices_Sort_string_string [(.tmp 6)]), none⟩] false) (.seq (.region [⟨(some 8), (.mv (.tmp 3)), none⟩, ⟨(some 9), (.callm F.slices_Compact_string_string [(.tmp 8)]), none⟩, ⟨(some 2), (.mv (.tmp 9)), none⟩] false) .ret))))
theorem is_name_Sort : FnIs Try.prog ⟨[], [], [5, 7, 9], []⟩ F.name_Sort 10 mc_name_Sort [(.tmp 2)] :=
  ⟨by kernel_rfl, _, _, Try.func106, rfl, by decide, rfl, by kernel_rfl, by kernel_rfl⟩
def mc_level_Inst : MCode :=
  (.seq (.region [⟨(some 2), (.bx (.tmp 0) false), none⟩, ⟨(some 4), (.al [(.int .i64 0), (.int .i64 0), (.slice none 0 0)]), none⟩, ⟨(some 5), (.mv (.const (.bool false))), none⟩] false) (.seq (.seq (.region [⟨(some 9), (.ld (.tmp 2) 3 true), none⟩, ⟨(some 10), (.mv (.tmp 1)), none⟩, ⟨(some 11), (.len (.tmp 10) false), none⟩, ⟨(some 12), (.call F.level_Right [(.tmp 9), (.tmp 11)]), none⟩, ⟨(some 13), (.un .not (.tmp 12)), none⟩] false) (.cond (.tmp 13) (.seq (.region [⟨(some 14), (.bld [(.int .i64 0), (.int .i64 0), (.slice none 0 0)] []), none⟩, ⟨none, (.st (.tmp 4) (.tmp 14) 3 false), none⟩, ⟨(some 5), (.mv (.const (.bool false))), none⟩] false) .ret) .skip)) (.seq (.seq (.region [⟨(some 15), (.mv (.tmp 1)), none⟩, ⟨(some 16), (.len (.tmp 15) false), none⟩, ⟨(some 17), (.mv (.const (.int .i64 0))), none⟩] false) (.block 0 (.loop (.seq (.region [⟨(some 18), (.bin .lss (.tmp 17) (.tmp 16)), none⟩] false) (.seq (.cond (.tmp 18) .skip (.exit 0)) (.seq (.block 1 (.seq (.region [⟨(some 19), (.ia (.tmp 15) (.tmp 17) 3 false), none⟩, ⟨(some 20), (.ld (.tmp 19) 3 true), none⟩, ⟨(some 7), (.al [(.int .i64 0), (.int .i64 0), (.slice none 0 0)]), none⟩, ⟨none, (.st (.tmp 7) (.tmp 20) 3 true), none⟩] false) (.seq (.region [⟨(some 21), (.ld (.tmp 7) 3 true), none⟩, ⟨(some 22), (.call F.level_Right [(.tmp 21), (.const (.int .i64 4))]), none⟩, ⟨(some 23), (.un .not (.tmp 22)), none⟩] false) (.cond (.tmp 23) (.seq (.region [⟨(some 24), (.bld [(.int .i64 0), (.int .i64 0), (.slice none 0 0)] []), none⟩, ⟨none, (.st (.tmp 4) (.tmp 24) 3 false), none⟩, ⟨(some 5), (.mv (.const (.bool false))), none⟩] false) .ret) .skip)))) (.region [⟨(some 25), (.bin .add (.tmp 17) (.const (.int .i64 1))), none⟩, ⟨(some 17), (.mv (.tmp 25)), none⟩] false))))))) (.seq (.region [⟨(some 26), (.mv (.tmp 1)), none⟩, ⟨(some 27), (.call F.level_inst [(.tmp 2), (.tmp 26)]), none⟩, ⟨(some 8), (.al [(.int .i64 0), (.int .i64 0), (.slice none 0 0)]), none⟩, ⟨none, (.st (.tmp 8) (.tmp 27) 3 true), none⟩] false) (.seq (.seq (.region [⟨(some 28), (.ld (.tmp 8) 3 true), none⟩, ⟨(some 29), (.call F.level_Nodes [(.tmp 28)]), none⟩, ⟨(some 30), (.bin .gtr (.tmp 29) (.const (.int .i64 64))), none⟩] false) (.cond (.tmp 30) (.seq (.region [⟨(some 31), (.bld [(.int .i64 0), (.int .i64 0), (.slice none 0 0)] []), none⟩, ⟨none, (.st (.tmp 4) (.tmp 31) 3 false), none⟩, ⟨(some 5), (.mv (.const (.bool false))), none⟩] false) .ret) .skip)) (.seq (.region [⟨(some 32), (.ld (.tmp 8) 3 true), none⟩, ⟨none, (.st (.tmp 4) (.tmp 32) 3 false), none⟩, ⟨(some 5), (.mv (.const (.bool true))), none⟩] false) .ret))))))
theorem is_level_Inst : FnIs Try.prog ⟨[], [7, 8], [], []⟩ F.level_Inst 33 mc_level_Inst [(.cell 4 3 true), (.tmp 5)] :=
  ⟨by kernel_rfl, _, _, Try.func107, rfl, by decide, rfl, by kernel_rfl, by kernel_rfl⟩
def mc_term_deeper : MCode :=
  (.seq (.region [⟨(some 4), (.mv (.const (.int .i64 0))), none⟩] false) (.seq (.seq (.region [⟨(some 5), (.mv (.tmp 0)), none⟩, ⟨(some 6), (.nilc (.tmp 5)), none⟩, ⟨(some 7), (.fa (.tmp 6) 0), none⟩, ⟨(some 8), (.ld (.tmp 7) 1 false), none⟩, ⟨(some 9), (.bin .geq (.tmp 8) (.const (.int .i64 5))), none⟩, ⟨(some 10), (.mv (.tmp 9)), none⟩, ⟨(some 11), (.mv (.tmp 1)), (some (10, true))⟩, ⟨(some 12), (.mv (.tmp 0)), (some (10, true))⟩, ⟨(some 13), (.nilc (.tmp 12)), (some (10, true))⟩, ⟨(some 14), (.fa (.tmp 13) 4), (some (10, true))⟩, ⟨(some 15), (.ld (.tmp 14) 1 false), (some (10, true))⟩, ⟨(some 16), (.len (.tmp 15) false), (some (10, true))⟩, ⟨(some 17), (.bin .sub (.tmp 16) (.const (.int .i64 1))), (some (10, true))⟩, ⟨(some 18), (.bin .eql (.tmp 11) (.tmp 17)), (some (10, true))⟩, ⟨(some 19), (.pick (.tmp 10) (.tmp 18) (.const (.bool false))), none⟩] false) (.cond (.tmp 19) (.seq (.region [⟨(some 4), (.mv (.const (.int .i64 1))), none⟩] false) .ret) .skip)) (.seq (.region [⟨(some 4), (.mv (.const (.int .i64 0))), none⟩] false) .ret)))
theorem is_term_deeper : FnIs Try.prog ⟨[], [], [], []⟩ F.term_deeper 20 mc_term_deeper [(.tmp 4)] :=
  ⟨by kernel_rfl, _, _, Try.func109, rfl, by decide, rfl, by kernel_rfl, by kernel_rfl⟩
def mc_term_has : MCode :=
  (.seq (.region [⟨(some 8), (.mv (.const (.bool false))), none⟩] false) (.seq (.region [⟨(some 9), (.mv (.tmp 0)), none⟩, ⟨(some 10), (.nilc (.tmp 9)), none⟩, ⟨(some 11), (.fa (.tmp 10) 1), none⟩, ⟨(some 12), (.ld (.tmp 11) 1 false), none⟩, ⟨(some 13), (.mv (.tmp 1)), none⟩, ⟨(some 14), (.bin .eql (.tmp 12) (.tmp 13)), none⟩, ⟨(some 15), (.mv (.tmp 14)), none⟩, ⟨(some 16), (.mv (.tmp 0)), (some (15, true))⟩, ⟨(some 17), (.nilc (.tmp 16)), (some (15, true))⟩, ⟨(some 18), (.fa (.tmp 17) 2), (some (15, true))⟩, ⟨(some 19), (.ld (.tmp 18) 1 false), (some (15, true))⟩, ⟨(some 20), (.bin .eql (.tmp 19) (.const (.string ⟨#[]⟩))), (some (15, true))⟩, ⟨(some 21), (.pick (.tmp 15) (.tmp 20) (.const (.bool false))), none⟩, ⟨(some 22), (.mv (.tmp 21)), none⟩, ⟨(some 23), (.mv (.tmp 0)), (some (22, true))⟩, ⟨(some 24), (.nilc (.tmp 23)), (some (22, true))⟩, ⟨(some 25), (.fa (.tmp 24) 3), (some (22, true))⟩, ⟨(some 26), (.ld (.tmp 25) 1 false), (some (22, true))⟩, ⟨(some 27), (.len (.tmp 26) false), (some (22, true))⟩, ⟨(some 28), (.mv (.tmp 2)), (some (22, true))⟩, ⟨(some 29), (.bin .eql (.tmp 27) (.tmp 28)), (some (22, true))⟩, ⟨(some 30), (.pick (.tmp 22) (.tmp 29) (.const (.bool false))), none⟩, ⟨(some 31), (.mv (.tmp 30)), none⟩, ⟨(some 32), (.mv (.tmp 0)), (some (31, true))⟩, ⟨(some 33), (.nilc (.tmp 32)), (some (31, true))⟩, ⟨(some 34), (.fa (.tmp 33) 4), (some (31, true))⟩, ⟨(some 35), (.ld (.tmp 34) 1 false), (some (31, true))⟩, ⟨(some 36), (.len (.tmp 35) false), (some (31, true))⟩, ⟨(some 37), (.mv (.tmp 3)), (some (31, true))⟩, ⟨(some 38), (.bin .eql (.tmp 36) (.tmp 37)), (some (31, true))⟩, ⟨(some 39), (.pick (.tmp 31) (.tmp 38) (.const (.bool false))), none⟩, ⟨(some 8), (.mv (.tmp 39)), none⟩] false) .ret))
theorem is_term_has : FnIs Try.prog ⟨[], [], [], []⟩ F.term_has 40 mc_term_has [(.tmp 8)] :=
  ⟨by kernel_rfl, _, _, Try.func111, rfl, by decide, rfl, by kernel_rfl, by kernel_rfl⟩
def mc_level_Right : MCode :=
  (.seq (.region [⟨(some 2), (.bx (.tmp 0) false), none⟩, ⟨(some 4), (.mv (.const (.bool false))), none⟩] false) (.seq (.region [⟨(some 5), (.mv (.tmp 1)), none⟩, ⟨(some 6), (.bin .geq (.tmp 5) (.const (.int .i64 0))), none⟩, ⟨(some 7), (.mv (.tmp 6)), none⟩, ⟨(some 8), (.mv (.tmp 1)), (some (7, true))⟩, ⟨(some 9), (.bin .leq (.tmp 8) (.const (.int .i64 4))), (some (7, true))⟩, ⟨(some 10), (.pick (.tmp 7) (.tmp 9) (.const (.bool false))), none⟩, ⟨(some 11), (.mv (.tmp 10)), none⟩, ⟨(some 12), (.ld (.tmp 2) 3 true), (some (11, true))⟩, ⟨(some 13), (.call F.level_Nodes [(.tmp 12)]), (some (11, true))⟩, ⟨(some 14), (.bin .leq (.tmp 13) (.const (.int .i64 64))), (some (11, true))⟩, ⟨(some 15), (.pick (.tmp 11) (.tmp 14) (.const (.bool false))), none⟩, ⟨(some 16), (.mv (.tmp 15)), none⟩, ⟨(some 17), (.mv (.tmp 1)), (some (16, true))⟩, ⟨(some 18), (.call F.level_formed [(.tmp 2), (.tmp 17)]), (some (16, true))⟩, ⟨(some 19), (.pick (.tmp 16) (.tmp 18) (.const (.bool false))), none⟩, ⟨(some 4), (.mv (.tmp 19)), none⟩] false) .ret))
theorem is_level_Right : FnIs Try.prog ⟨[], [], [], []⟩ F.level_Right 20 mc_level_Right [(.tmp 4)] :=
  ⟨by kernel_rfl, _, _, Try.func112, rfl, by decide, rfl, by kernel_rfl, by kernel_rfl⟩
def mc_term_constant : MCode :=
  (.seq (.region [⟨(some 4), (.mv (.const (.bool false))), none⟩] false) (.seq (.seq (.region [⟨(some 6), (.mv (.tmp 0)), none⟩, ⟨(some 7), (.nilc (.tmp 6)), none⟩, ⟨(some 8), (.fa (.tmp 7) 1), none⟩, ⟨(some 9), (.ld (.tmp 8) 1 false), none⟩, ⟨(some 10), (.bin .neq (.tmp 9) (.const (.int .i64 0))), none⟩, ⟨(some 11), (.mv (.tmp 10)), none⟩, ⟨(some 12), (.mv (.tmp 0)), (some (11, false))⟩, ⟨(some 13), (.nilc (.tmp 12)), (some (11, false))⟩, ⟨(some 14), (.fa (.tmp 13) 4), (some (11, false))⟩, ⟨(some 15), (.ld (.tmp 14) 1 false), (some (11, false))⟩, ⟨(some 16), (.len (.tmp 15) false), (some (11, false))⟩, ⟨(some 17), (.bin .neq (.tmp 16) (.const (.int .i64 0))), (some (11, false))⟩, ⟨(some 18), (.pick (.tmp 11) (.const (.bool true)) (.tmp 17)), none⟩, ⟨(some 19), (.mv (.tmp 18)), none⟩, ⟨(some 20), (.mv (.tmp 0)), (some (19, false))⟩, ⟨(some 21), (.nilc (.tmp 20)), (some (19, false))⟩, ⟨(some 22), (.fa (.tmp 21) 3), (some (19, false))⟩, ⟨(some 23), (.ld (.tmp 22) 1 false), (some (19, false))⟩, ⟨(some 24), (.len (.tmp 23) false), (some (19, false))⟩, ⟨(some 25), (.bin .gtr (.tmp 24) (.const (.int .i64 4))), (some (19, false))⟩, ⟨(some 26), (.pick (.tmp 19) (.const (.bool true)) (.tmp 25)), none⟩, ⟨(some 27), (.mv (.tmp 26)), none⟩, ⟨(some 28), (.mv (.tmp 0)), (some (27, false))⟩, ⟨(some 29), (.nilc (.tmp 28)), (some (27, false))⟩, ⟨(some 30), (.fa (.tmp 29) 2), (some (27, false))⟩, ⟨(some 31), (.ld (.tmp 30) 1 false), (some (27, false))⟩, ⟨(some 32), (.call F.name_Right [(.tmp 31)]), (some (27, false))⟩, ⟨(some 33), (.un .not (.tmp 32)), (some (27, false))⟩, ⟨(some 34), (.pick (.tmp 27) (.const (.bool true)) (.tmp 33)), none⟩] false) (.cond (.tmp 34) (.seq (.region [⟨(some 4), (.mv (.const (.bool false))), none⟩] false) .ret) .skip)) (.seq (.seq (.region [⟨(some 35), (.mv (.tmp 0)), none⟩, ⟨(some 36), (.nilc (.tmp 35)), none⟩, ⟨(some 37), (.fa (.tmp 36) 3), none⟩, ⟨(some 38), (.ld (.tmp 37) 1 false), none⟩, ⟨(some 39), (.len (.tmp 38) false), none⟩, ⟨(some 40), (.mv (.const (.int .i64 0))), none⟩] false) (.block 0 (.loop (.seq (.region [⟨(some 41), (.bin .lss (.tmp 40) (.tmp 39)), none⟩] false) (.seq (.cond (.tmp 41) .skip (.exit 0)) (.seq (.block 1 (.seq (.region [⟨(some 42), (.mv (.tmp 40)), none⟩, ⟨(some 5), (.mv (.tmp 42)), none⟩] false) (.seq (.region [⟨(some 43), (.mv (.tmp 0)), none⟩, ⟨(some 44), (.nilc (.tmp 43)), none⟩, ⟨(some 45), (.fa (.tmp 44) 3), none⟩, ⟨(some 46), (.ld (.tmp 45) 1 false), none⟩, ⟨(some 47), (.mv (.tmp 5)), none⟩, ⟨(some 48), (.ia (.tmp 46) (.tmp 47) 3 false), none⟩, ⟨(some 49), (.ld (.tmp 48) 3 true), none⟩, ⟨(some 50), (.mv (.tmp 1)), none⟩, ⟨(some 51), (.call F.level_Right [(.tmp 49), (.tmp 50)]), none⟩, ⟨(some 52), (.un .not (.tmp 51)), none⟩] false) (.cond (.tmp 52) (.seq (.region [⟨(some 4), (.mv (.const (.bool false))), none⟩] false) .ret) .skip)))) (.region [⟨(some 53), (.bin .add (.tmp 40) (.const (.int .i64 1))), none⟩, ⟨(some 40), (.mv (.tmp 53)), none⟩] false))))))) (.seq (.region [⟨(some 4), (.mv (.const (.bool true))), none⟩] false) .ret))))
theorem is_term_constant : FnIs Try.prog ⟨[], [], [], []⟩ F.term_constant 54 mc_term_constant [(.tmp 4)] :=
  ⟨by kernel_rfl, _, _, Try.func113, rfl, by decide, rfl, by kernel_rfl, by kernel_rfl⟩
def mc_term_parts : MCode :=
  (.seq (.region [⟨(some 6), (.mv (.const (.bool false))), none⟩] false) (.seq (.seq (.region [⟨(some 8), (.mv (.tmp 0)), none⟩, ⟨(some 9), (.nilc (.tmp 8)), none⟩, ⟨(some 10), (.fa (.tmp 9) 4), none⟩, ⟨(some 11), (.ld (.tmp 10) 1 false), none⟩, ⟨(some 12), (.len (.tmp 11) false), none⟩, ⟨(some 13), (.mv (.const (.int .i64 0))), none⟩] false) (.block 0 (.loop (.seq (.region [⟨(some 14), (.bin .lss (.tmp 13) (.tmp 12)), none⟩] false) (.seq (.cond (.tmp 14) .skip (.exit 0)) (.seq (.block 1 (.seq (.region [⟨(some 15), (.mv (.tmp 13)), none⟩, ⟨(some 7), (.mv (.tmp 15)), none⟩] false) (.seq (.region [⟨(some 16), (.mv (.tmp 0)), none⟩, ⟨(some 17), (.nilc (.tmp 16)), none⟩, ⟨(some 18), (.fa (.tmp 17) 4), none⟩, ⟨(some 19), (.ld (.tmp 18) 1 false), none⟩, ⟨(some 20), (.mv (.tmp 7)), none⟩, ⟨(some 21), (.ia (.tmp 19) (.tmp 20) 5 false), none⟩, ⟨(some 22), (.mv (.tmp 1)), none⟩, ⟨(some 23), (.mv (.tmp 2)), none⟩, ⟨(some 24), (.mv (.tmp 0)), none⟩, ⟨(some 25), (.mv (.tmp 7)), none⟩, ⟨(some 26), (.call F.term_deeper [(.tmp 24), (.tmp 25)]), none⟩, ⟨(some 27), (.bin .add (.tmp 23) (.tmp 26)), none⟩, ⟨(some 28), (.callm F.term_formed [(.tmp 21), (.tmp 22), (.tmp 27)]), none⟩, ⟨(some 29), (.un .not (.tmp 28)), none⟩] true) (.cond (.tmp 29) (.seq (.region [⟨(some 6), (.mv (.const (.bool false))), none⟩] false) .ret) .skip)))) (.region [⟨(some 30), (.bin .add (.tmp 13) (.const (.int .i64 1))), none⟩, ⟨(some 13), (.mv (.tmp 30)), none⟩] false))))))) (.seq (.region [⟨(some 6), (.mv (.const (.bool true))), none⟩] false) .ret)))
theorem is_term_parts : FnIs Try.prog ⟨[], [], [28], []⟩ F.term_parts 31 mc_term_parts [(.tmp 6)] :=
  ⟨by kernel_rfl, _, _, Try.func114, rfl, by decide, rfl, by kernel_rfl, by kernel_rfl⟩
def mc_term_all_1 : MCode :=
  (.region [⟨(some 3), (.ld (.tmp 1) 1 false), none⟩, ⟨(some 4), (.mv (.tmp 0)), none⟩, ⟨(some 5), (.call F.term_walk [(.tmp 3), (.tmp 4)]), none⟩] false)
theorem is_term_all_1 : FnIs Try.prog ⟨[], [], [], []⟩ F.term_all_1 6 mc_term_all_1 [] :=
  ⟨by kernel_rfl, _, _, Try.func115, rfl, by decide, rfl, by kernel_rfl, by kernel_rfl⟩
def mc_term_sameLevels : MCode :=
  (.seq (.region [⟨(some 4), (.mv (.const (.bool false))), none⟩] false) (.seq (.seq (.region [⟨(some 6), (.mv (.tmp 0)), none⟩, ⟨(some 7), (.len (.tmp 6) false), none⟩, ⟨(some 8), (.mv (.tmp 1)), none⟩, ⟨(some 9), (.len (.tmp 8) false), none⟩, ⟨(some 10), (.bin .neq (.tmp 7) (.tmp 9)), none⟩] false) (.cond (.tmp 10) (.seq (.region [⟨(some 4), (.mv (.const (.bool false))), none⟩] false) .ret) .skip)) (.seq (.seq (.region [⟨(some 11), (.mv (.tmp 0)), none⟩, ⟨(some 12), (.len (.tmp 11) false), none⟩, ⟨(some 13), (.bin .gtr (.tmp 12) (.const (.int .i64 0))), none⟩, ⟨(some 14), (.mv (.tmp 13)), none⟩, ⟨(some 15), (.mv (.tmp 0)), (some (14, true))⟩, ⟨(some 16), (.ia (.tmp 15) (.const (.int .i64 0)) 3 true), (some (14, true))⟩, ⟨(some 17), (.mv (.tmp 1)), (some (14, true))⟩, ⟨(some 18), (.ia (.tmp 17) (.const (.int .i64 0)) 3 true), (some (14, true))⟩, ⟨(some 19), (.raw (.mk (some 19) (.binOp .eql 91 (.tmp 16) (.tmp 18) 91) 4 "term.go:170" #[(.mk 5 .data), (.mk 7 .data), (.mk 3 .guard)] (some (3, true)))), (some (14, true))⟩, ⟨(some 20), (.pick (.tmp 14) (.tmp 19) (.const (.bool false))), none⟩] true) (.cond (.tmp 20) (.seq (.region [⟨(some 4), (.mv (.const (.bool true))), none⟩] false) .ret) .skip)) (.seq (.seq (.region [⟨(some 21), (.mv (.tmp 0)), none⟩, ⟨(some 22), (.len (.tmp 21) false), none⟩, ⟨(some 23), (.mv (.const (.int .i64 0))), none⟩] false) (.block 0 (.loop (.seq (.region [⟨(some 24), (.bin .lss (.tmp 23) (.tmp 22)), none⟩] false) (.seq (.cond (.tmp 24) .skip (.exit 0)) (.seq (.block 1 (.seq (.region [⟨(some 25), (.mv (.tmp 23)), none⟩, ⟨(some 5), (.mv (.tmp 25)), none⟩] false) (.seq (.region [⟨(some 26), (.mv (.tmp 0)), none⟩, ⟨(some 27), (.mv (.tmp 5)), none⟩, ⟨(some 28), (.ia (.tmp 26) (.tmp 27) 3 false), none⟩, ⟨(some 29), (.fa (.tmp 28) 0), none⟩, ⟨(some 30), (.ld (.tmp 29) 1 false), none⟩, ⟨(some 31), (.mv (.tmp 1)), none⟩, ⟨(some 32), (.mv (.tmp 5)), none⟩, ⟨(some 33), (.ia (.tmp 31) (.tmp 32) 3 false), none⟩, ⟨(some 34), (.fa (.tmp 33) 0), none⟩, ⟨(some 35), (.ld (.tmp 34) 1 false), none⟩, ⟨(some 36), (.bin .neq (.tmp 30) (.tmp 35)), none⟩, ⟨(some 37), (.mv (.tmp 36)), none⟩, ⟨(some 38), (.mv (.tmp 0)), (some (37, false))⟩, ⟨(some 39), (.mv (.tmp 5)), (some (37, false))⟩, ⟨(some 40), (.ia (.tmp 38) (.tmp 39) 3 false), (some (37, false))⟩, ⟨(some 41), (.fa (.tmp 40) 1), (some (37, false))⟩, ⟨(some 42), (.ld (.tmp 41) 1 false), (some (37, false))⟩, ⟨(some 43), (.mv (.tmp 1)), (some (37, false))⟩, ⟨(some 44), (.mv (.tmp 5)), (some (37, false))⟩, ⟨(some 45), (.ia (.tmp 43) (.tmp 44) 3 false), (some (37, false))⟩, ⟨(some 46), (.fa (.tmp 45) 1), (some (37, false))⟩, ⟨(some 47), (.ld (.tmp 46) 1 false), (some (37, false))⟩, ⟨(some 48), (.bin .neq (.tmp 42) (.tmp 47)), (some (37, false))⟩, ⟨(some 49), (.pick (.tmp 37) (.const (.bool true)) (.tmp 48)), none⟩, ⟨(some 50), (.mv (.tmp 49)), none⟩, ⟨(some 51), (.mv (.tmp 0)), (some (50, false))⟩, ⟨(some 52), (.mv (.tmp 5)), (some (50, false))⟩, ⟨(some 53), (.ia (.tmp 51) (.tmp 52) 3 false), (some (50, false))⟩, ⟨(some 54), (.fa (.tmp 53) 2), (some (50, false))⟩, ⟨(some 55), (.ld (.tmp 54) 1 false), (some (50, false))⟩, ⟨(some 56), (.mv (.tmp 1)), (some (50, false))⟩, ⟨(some 57), (.mv (.tmp 5)), (some (50, false))⟩, ⟨(some 58), (.ia (.tmp 56) (.tmp 57) 3 false), (some (50, false))⟩, ⟨(some 59), (.fa (.tmp 58) 2), (some (50, false))⟩, ⟨(some 60), (.ld (.tmp 59) 1 false), (some (50, false))⟩, ⟨(some 61), (.callm F.term_sameLevels [(.tmp 55), (.tmp 60)]), (some (50, false))⟩, ⟨(some 62), (.un .not (.tmp 61)), (some (50, false))⟩, ⟨(some 63), (.pick (.tmp 50) (.const (.bool true)) (.tmp 62)), none⟩] true) (.cond (.tmp 63) (.seq (.region [⟨(some 4), (.mv (.const (.bool false))), none⟩] false) .ret) .skip)))) (.region [⟨(some 64), (.bin .add (.tmp 23) (.const (.int .i64 1))), none⟩, ⟨(some 23), (.mv (.tmp 64)), none⟩] false))))))) (.seq (.region [⟨(some 4), (.mv (.const (.bool true))), none⟩] false) .ret)))))
theorem is_term_sameLevels : FnIs Try.prog ⟨[], [], [61], [16, 18]⟩ F.term_sameLevels 65 mc_term_sameLevels [(.tmp 4)] :=
  ⟨by kernel_rfl, _, _, Try.func117, rfl, by decide, rfl, by kernel_rfl, by kernel_rfl⟩
def mc_level_Max : MCode :=
  (.seq (.region [⟨(some 2), (.al [(.int .i64 0), (.int .i64 0), (.slice none 0 0)]), none⟩] false) (.seq (.seq (.region [⟨(some 6), (.mv (.tmp 0)), none⟩, ⟨(some 7), (.len (.tmp 6) false), none⟩, ⟨(some 8), (.bin .eql (.tmp 7) (.const (.int .i64 0))), none⟩] false) (.cond (.tmp 8) (.seq (.region [⟨(some 9), (.call F.level_Num [(.const (.int .i64 0))]), none⟩, ⟨none, (.st (.tmp 2) (.tmp 9) 3 false), none⟩] false) .ret) .skip)) (.seq (.region [⟨(some 10), (.mv (.tmp 0)), none⟩, ⟨(some 11), (.len (.tmp 10) false), none⟩, ⟨(some 12), (.bin .sub (.tmp 11) (.const (.int .i64 1))), none⟩, ⟨(some 3), (.mv (.tmp 12)), none⟩] false) (.seq (.region [⟨(some 13), (.mv (.tmp 0)), none⟩, ⟨(some 14), (.mv (.tmp 3)), none⟩, ⟨(some 15), (.ia (.tmp 13) (.tmp 14) 3 false), none⟩, ⟨(some 16), (.call F.level_clone [(.tmp 15)]), none⟩, ⟨(some 4), (.al [(.int .i64 0), (.int .i64 0), (.slice none 0 0)]), none⟩, ⟨none, (.st (.tmp 4) (.tmp 16) 3 false), none⟩] false) (.seq (.seq (.region [⟨(some 17), (.mv (.tmp 3)), none⟩, ⟨(some 18), (.bin .sub (.tmp 17) (.const (.int .i64 1))), none⟩, ⟨(some 5), (.mv (.tmp 18)), none⟩] false) (.block 0 (.loop (.seq (.seq (.region [⟨(some 19), (.mv (.tmp 5)), none⟩, ⟨(some 20), (.bin .geq (.tmp 19) (.const (.int .i64 0))), none⟩] false) (.cond (.tmp 20) .skip (.exit 0))) (.seq (.block 1 (.region [⟨(some 23), (.mv (.tmp 0)), none⟩, ⟨(some 24), (.mv (.tmp 5)), none⟩, ⟨(some 25), (.ia (.tmp 23) (.tmp 24) 3 false), none⟩, ⟨(some 26), (.call F.level_clone [(.tmp 25)]), none⟩, ⟨(some 27), (.ld (.tmp 4) 3 true), none⟩, ⟨(some 28), (.bsl 3 2 [(.int .i64 0), (.int .i64 0), (.slice none 0 0)] [(0, (3, (.tmp 26))), (3, (3, (.tmp 27)))] false), none⟩, ⟨(some 29), (.callm F.level_made [(.const (.int .i64 4)), (.tmp 28)]), none⟩, ⟨none, (.st (.tmp 4) (.tmp 29) 3 false), none⟩] true)) (.region [⟨(some 21), (.mv (.tmp 5)), none⟩, ⟨(some 22), (.bin .sub (.tmp 21) (.const (.int .i64 1))), none⟩, ⟨(some 5), (.mv (.tmp 22)), none⟩] false)))))) (.seq (.region [⟨(some 30), (.ld (.tmp 4) 3 true), none⟩, ⟨none, (.st (.tmp 2) (.tmp 30) 3 false), none⟩] false) .ret))))))
theorem is_level_Max : FnIs Try.prog ⟨[], [], [29], []⟩ F.level_Max 31 mc_level_Max [(.cell 2 3 true)] :=
  ⟨by kernel_rfl, _, _, Try.func125, rfl, by decide, rfl, by kernel_rfl, by kernel_rfl⟩
def mc_slices_Clone_string_string : MCode :=
  (.seq (.region [⟨(some 2), (.mv (.const (.slice none 0 0))), none⟩] false) (.seq (.seq (.region [⟨(some 3), (.mv (.tmp 0)), none⟩, ⟨(some 4), (.raw (.mk (some 4) (.binOp .eql 49 (.tmp 3) (.const (.slice none 0 0)) 49) 4 "slices.go:357" #[(.mk 0 .data)] none)), none⟩] false) (.cond (.tmp 4) (.seq (.region [⟨(some 2), (.mv (.const (.slice none 0 0))), none⟩] false) .ret) .skip)) (.seq (.region [⟨(some 5), (.bsl 1 0 [(.string ⟨#[]⟩)] [] true), none⟩, ⟨(some 6), (.mv (.tmp 0)), none⟩, ⟨(some 7), (.app 1 16 (.tmp 5) (.tmp 6)), none⟩, ⟨(some 2), (.mv (.tmp 7)), none⟩] false) .ret)))
theorem is_slices_Clone_string_string : FnIs Try.prog ⟨[5], [], [], []⟩ F.slices_Clone_string_string 8 mc_slices_Clone_string_string [(.tmp 2)] :=
  ⟨by kernel_rfl, _, _, Try.func126, rfl, by decide, rfl, by kernel_rfl, by kernel_rfl⟩
def mc_slices_Sort_string_string : MCode :=
  (.seq (.region [⟨(some 3), (.mv (.tmp 0)), none⟩, ⟨(some 4), (.len (.tmp 3) false), none⟩, ⟨(some 2), (.mv (.tmp 4)), none⟩] false) (.region [⟨(some 5), (.mv (.tmp 0)), none⟩, ⟨(some 6), (.mv (.tmp 2)), none⟩, ⟨(some 7), (.mv (.tmp 2)), none⟩, ⟨(some 8), (.raw (.mk (some 8) (.convert 3 136 (.tmp 7)) 136 "sort.go:18" #[(.mk 2 .data)] none)), none⟩, ⟨(some 9), (.call F.math_bits_Len [(.tmp 8)]), none⟩, ⟨(some 10), (.call F.slices_pdqsortOrdered_string [(.tmp 5), (.const (.int .i64 0)), (.tmp 6), (.tmp 9)]), none⟩] false))
theorem is_slices_Sort_string_string : FnIs Try.prog ⟨[], [], [], []⟩ F.slices_Sort_string_string 11 mc_slices_Sort_string_string [] :=
  ⟨by kernel_rfl, _, _, Try.func127, rfl, by decide, rfl, by kernel_rfl, by kernel_rfl⟩
def mc_slices_Compact_string_string : MCode :=
  (.seq (.region [⟨(some 2), (.mv (.const (.slice none 0 0))), none⟩] false) (.seq (.seq (.region [⟨(some 6), (.mv (.tmp 0)), none⟩, ⟨(some 7), (.len (.tmp 6) false), none⟩, ⟨(some 8), (.bin .lss (.tmp 7) (.const (.int .i64 2))), none⟩] false) (.cond (.tmp 8) (.seq (.region [⟨(some 9), (.mv (.tmp 0)), none⟩, ⟨(some 2), (.mv (.tmp 9)), none⟩] false) .ret) .skip)) (.seq (.seq (.region [⟨(some 3), (.mv (.const (.int .i64 1))), none⟩] false) (.block 0 (.loop (.seq (.seq (.region [⟨(some 10), (.mv (.tmp 3)), none⟩, ⟨(some 11), (.mv (.tmp 0)), none⟩, ⟨(some 12), (.len (.tmp 11) false), none⟩, ⟨(some 13), (.bin .lss (.tmp 10) (.tmp 12)), none⟩] false) (.cond (.tmp 13) .skip (.exit 0))) (.seq (.block 1 (.seq (.region [⟨(some 16), (.mv (.tmp 0)), none⟩, ⟨(some 17), (.mv (.tmp 3)), none⟩, ⟨(some 18), (.ia (.tmp 16) (.tmp 17) 1 false), none⟩, ⟨(some 19), (.ld (.tmp 18) 1 false), none⟩, ⟨(some 20), (.mv (.tmp 0)), none⟩, ⟨(some 21), (.mv (.tmp 3)), none⟩, ⟨(some 22), (.bin .sub (.tmp 21) (.const (.int .i64 1))), none⟩, ⟨(some 23), (.ia (.tmp 20) (.tmp 22) 1 false), none⟩, ⟨(some 24), (.ld (.tmp 23) 1 false), none⟩, ⟨(some 25), (.bin .eql (.tmp 19) (.tmp 24)), none⟩] true) (.cond (.tmp 25) (.seq (.region [⟨(some 26), (.mv (.tmp 0)), none⟩, ⟨(some 27), (.mv (.tmp 3)), none⟩, ⟨(some 28), (.slc (.tmp 26) (some (.tmp 27)) none none 1 false), none⟩, ⟨(some 4), (.mv (.tmp 28)), none⟩] false) (.seq (.seq (.region [⟨(some 5), (.mv (.const (.int .i64 1))), none⟩] false) (.block 2 (.loop (.seq (.seq (.region [⟨(some 29), (.mv (.tmp 5)), none⟩, ⟨(some 30), (.mv (.tmp 4)), none⟩, ⟨(some 31), (.len (.tmp 30) false), none⟩, ⟨(some 32), (.bin .lss (.tmp 29) (.tmp 31)), none⟩] false) (.cond (.tmp 32) .skip (.exit 2))) (.seq (.block 3 (.seq (.region [⟨(some 35), (.mv (.tmp 4)), none⟩, ⟨(some 36), (.mv (.tmp 5)), none⟩, ⟨(some 37), (.ia (.tmp 35) (.tmp 36) 1 false), none⟩, ⟨(some 38), (.ld (.tmp 37) 1 false), none⟩, ⟨(some 39), (.mv (.tmp 4)), none⟩, ⟨(some 40), (.mv (.tmp 5)), none⟩, ⟨(some 41), (.bin .sub (.tmp 40) (.const (.int .i64 1))), none⟩, ⟨(some 42), (.ia (.tmp 39) (.tmp 41) 1 false), none⟩, ⟨(some 43), (.ld (.tmp 42) 1 false), none⟩, ⟨(some 44), (.bin .neq (.tmp 38) (.tmp 43)), none⟩] true) (.cond (.tmp 44) (.seq (.region [⟨(some 45), (.mv (.tmp 0)), none⟩, ⟨(some 46), (.mv (.tmp 3)), none⟩, ⟨(some 47), (.mv (.tmp 4)), none⟩, ⟨(some 48), (.mv (.tmp 5)), none⟩, ⟨(some 49), (.ia (.tmp 47) (.tmp 48) 1 false), none⟩, ⟨(some 50), (.ld (.tmp 49) 1 false), none⟩, ⟨(some 51), (.ia (.tmp 45) (.tmp 46) 1 false), none⟩, ⟨none, (.st (.tmp 51) (.tmp 50) 1 false), none⟩] false) (.region [⟨(some 52), (.mv (.tmp 3)), none⟩, ⟨(some 53), (.bin .add (.tmp 52) (.const (.int .i64 1))), none⟩, ⟨(some 3), (.mv (.tmp 53)), none⟩] false)) .skip))) (.region [⟨(some 33), (.mv (.tmp 5)), none⟩, ⟨(some 34), (.bin .add (.tmp 33) (.const (.int .i64 1))), none⟩, ⟨(some 5), (.mv (.tmp 34)), none⟩] false)))))) (.seq (.region [⟨(some 54), (.mv (.tmp 0)), none⟩, ⟨(some 55), (.mv (.tmp 3)), none⟩, ⟨(some 56), (.slc (.tmp 54) (some (.tmp 55)) none none 1 false), none⟩, ⟨none, (.raw (.mk none (.call (.mk (.builtin .clear) #[(.tmp 56)] #[49])) 0 "slices.go:385" #[(.mk 2 .data)] none)), none⟩] false) (.seq (.region [⟨(some 57), (.mv (.tmp 0)), none⟩, ⟨(some 58), (.mv (.tmp 3)), none⟩, ⟨(some 59), (.slc (.tmp 57) none (some (.tmp 58)) none 1 false), none⟩, ⟨(some 2), (.mv (.tmp 59)), none⟩] false) .ret)))) .skip))) (.region [⟨(some 14), (.mv (.tmp 3)), none⟩, ⟨(some 15), (.bin .add (.tmp 14) (.const (.int .i64 1))), none⟩, ⟨(some 3), (.mv (.tmp 15)), none⟩] false)))))) (.seq (.region [⟨(some 60), (.mv (.tmp 0)), none⟩, ⟨(some 2), (.mv (.tmp 60)), none⟩] false) .ret))))
theorem is_slices_Compact_string_string : FnIs Try.prog ⟨[], [], [], []⟩ F.slices_Compact_string_string 61 mc_slices_Compact_string_string [(.tmp 2)] :=
  ⟨by kernel_rfl, _, _, Try.func128, rfl, by decide, rfl, by kernel_rfl, by kernel_rfl⟩
def mc_level_inst : MCode :=
  (.seq (.region [⟨(some 4), (.al [(.int .i64 0), (.int .i64 0), (.slice none 0 0)]), none⟩] false) (.seq (.seq (.region [⟨(some 7), (.mv (.tmp 0)), none⟩, ⟨(some 8), (.nilc (.tmp 7)), none⟩, ⟨(some 9), (.fa (.tmp 8) 0), none⟩, ⟨(some 10), (.ld (.tmp 9) 1 false), none⟩, ⟨(some 11), (.bin .eql (.tmp 10) (.const (.int .i64 2))), none⟩] false) (.cond (.tmp 11) (.seq (.region [⟨(some 12), (.mv (.tmp 1)), none⟩, ⟨(some 13), (.mv (.tmp 0)), none⟩, ⟨(some 14), (.nilc (.tmp 13)), none⟩, ⟨(some 15), (.fa (.tmp 14) 1), none⟩, ⟨(some 16), (.ld (.tmp 15) 1 false), none⟩, ⟨(some 17), (.ia (.tmp 12) (.tmp 16) 3 false), none⟩, ⟨(some 18), (.call F.level_clone [(.tmp 17)]), none⟩, ⟨none, (.st (.tmp 4) (.tmp 18) 3 false), none⟩] false) .ret) .skip)) (.seq (.region [⟨(some 19), (.mv (.tmp 0)), none⟩, ⟨(some 20), (.nilc (.tmp 19)), none⟩, ⟨(some 21), (.fa (.tmp 20) 0), none⟩, ⟨(some 22), (.ld (.tmp 21) 1 false), none⟩, ⟨(some 23), (.mv (.tmp 0)), none⟩, ⟨(some 24), (.nilc (.tmp 23)), none⟩, ⟨(some 25), (.fa (.tmp 24) 1), none⟩, ⟨(some 26), (.ld (.tmp 25) 1 false), none⟩, ⟨(some 27), (.bld [(.int .i64 0), (.int .i64 0), (.slice none 0 0)] [(0, (1, (.tmp 22))), (1, (1, (.tmp 26)))]), none⟩, ⟨(some 5), (.al [(.int .i64 0), (.int .i64 0), (.slice none 0 0)]), none⟩, ⟨none, (.st (.tmp 5) (.tmp 27) 3 false), none⟩] true) (.seq (.seq (.region [⟨(some 28), (.mv (.tmp 0)), none⟩, ⟨(some 29), (.nilc (.tmp 28)), none⟩, ⟨(some 30), (.fa (.tmp 29) 2), none⟩, ⟨(some 31), (.ld (.tmp 30) 1 false), none⟩, ⟨(some 32), (.len (.tmp 31) false), none⟩, ⟨(some 33), (.bin .gtr (.tmp 32) (.const (.int .i64 0))), none⟩] false) (.cond (.tmp 33) (.region [⟨(some 34), (.mv (.tmp 0)), none⟩, ⟨(some 35), (.nilc (.tmp 34)), none⟩, ⟨(some 36), (.fa (.tmp 35) 2), none⟩, ⟨(some 37), (.ld (.tmp 36) 1 false), none⟩, ⟨(some 38), (.len (.tmp 37) false), none⟩, ⟨(some 39), (.mks 3 40 [(.int .i64 0), (.int .i64 0), (.slice none 0 0)] (.tmp 38) (.tmp 38)), none⟩, ⟨(some 40), (.fa (.tmp 5) 2), none⟩, ⟨none, (.st (.tmp 40) (.tmp 39) 1 false), none⟩] false) .skip)) (.seq (.seq (.region [⟨(some 41), (.mv (.tmp 0)), none⟩, ⟨(some 42), (.nilc (.tmp 41)), none⟩, ⟨(some 43), (.fa (.tmp 42) 2), none⟩, ⟨(some 44), (.ld (.tmp 43) 1 false), none⟩, ⟨(some 45), (.len (.tmp 44) false), none⟩, ⟨(some 46), (.mv (.const (.int .i64 0))), none⟩] false) (.block 0 (.loop (.seq (.region [⟨(some 47), (.bin .lss (.tmp 46) (.tmp 45)), none⟩] false) (.seq (.cond (.tmp 47) .skip (.exit 0)) (.seq (.block 1 (.seq (.region [⟨(some 48), (.mv (.tmp 46)), none⟩, ⟨(some 6), (.mv (.tmp 48)), none⟩] false) (.region [⟨(some 49), (.fa (.tmp 5) 2), none⟩, ⟨(some 50), (.ld (.tmp 49) 1 false), none⟩, ⟨(some 51), (.mv (.tmp 6)), none⟩, ⟨(some 52), (.mv (.tmp 0)), none⟩, ⟨(some 53), (.nilc (.tmp 52)), none⟩, ⟨(some 54), (.fa (.tmp 53) 2), none⟩, ⟨(some 55), (.ld (.tmp 54) 1 false), none⟩, ⟨(some 56), (.mv (.tmp 6)), none⟩, ⟨(some 57), (.ia (.tmp 55) (.tmp 56) 3 false), none⟩, ⟨(some 58), (.mv (.tmp 1)), none⟩, ⟨(some 59), (.call F.level_inst [(.tmp 57), (.tmp 58)]), none⟩, ⟨(some 60), (.ia (.tmp 50) (.tmp 51) 3 false), none⟩, ⟨none, (.st (.tmp 60) (.tmp 59) 3 false), none⟩] true))) (.region [⟨(some 61), (.bin .add (.tmp 46) (.const (.int .i64 1))), none⟩, ⟨(some 46), (.mv (.tmp 61)), none⟩] false))))))) (.seq (.region [⟨(some 62), (.ld (.tmp 5) 3 true), none⟩, ⟨none, (.st (.tmp 4) (.tmp 62) 3 false), none⟩] false) .ret))))))
theorem is_level_inst : FnIs Try.prog ⟨[], [], [], []⟩ F.level_inst 63 mc_level_inst [(.cell 4 3 true)] :=
  ⟨by kernel_rfl, _, _, Try.func129, rfl, by decide, rfl, by kernel_rfl, by kernel_rfl⟩
def mc_level_Nodes : MCode :=
  (.seq (.region [⟨(some 1), (.bx (.tmp 0) false), none⟩, ⟨(some 2), (.mv (.const (.int .i64 0))), none⟩] false) (.seq (.region [⟨(some 3), (.call F.level_nodes [(.tmp 1), (.const (.int .i64 65))]), none⟩, ⟨(some 2), (.mv (.tmp 3)), none⟩] false) .ret))
theorem is_level_Nodes : FnIs Try.prog ⟨[], [], [], []⟩ F.level_Nodes 4 mc_level_Nodes [(.tmp 2)] :=
  ⟨by kernel_rfl, _, _, Try.func130, rfl, by decide, rfl, by kernel_rfl, by kernel_rfl⟩
def mc_level_formed : MCode :=
  (.seq (.region [⟨(some 4), (.mv (.const (.bool false))), none⟩] false) (.seq (.seq (.region [⟨(some 5), (.mv (.tmp 0)), none⟩, ⟨(some 6), (.nilc (.tmp 5)), none⟩, ⟨(some 7), (.fa (.tmp 6) 0), none⟩, ⟨(some 8), (.ld (.tmp 7) 1 false), none⟩] false) (.block 0 (.seq (.region [⟨(some 10), (.bin .eql (.tmp 8) (.const (.int .i64 1))), none⟩, ⟨(some 9), (.mv (.tmp 10)), none⟩] false) (.cond (.tmp 9) (.seq (.region [⟨(some 11), (.mv (.tmp 0)), none⟩, ⟨(some 12), (.nilc (.tmp 11)), none⟩, ⟨(some 13), (.fa (.tmp 12) 1), none⟩, ⟨(some 14), (.ld (.tmp 13) 1 false), none⟩, ⟨(some 15), (.bin .geq (.tmp 14) (.const (.int .i64 0))), none⟩, ⟨(some 16), (.mv (.tmp 15)), none⟩, ⟨(some 17), (.mv (.tmp 0)), (some (16, true))⟩, ⟨(some 18), (.nilc (.tmp 17)), (some (16, true))⟩, ⟨(some 19), (.fa (.tmp 18) 1), (some (16, true))⟩, ⟨(some 20), (.ld (.tmp 19) 1 false), (some (16, true))⟩, ⟨(some 21), (.bin .leq (.tmp 20) (.const (.int .i64 100))), (some (16, true))⟩, ⟨(some 22), (.pick (.tmp 16) (.tmp 21) (.const (.bool false))), none⟩, ⟨(some 23), (.mv (.tmp 22)), none⟩, ⟨(some 24), (.mv (.tmp 0)), (some (23, true))⟩, ⟨(some 25), (.nilc (.tmp 24)), (some (23, true))⟩, ⟨(some 26), (.fa (.tmp 25) 2), (some (23, true))⟩, ⟨(some 27), (.ld (.tmp 26) 1 false), (some (23, true))⟩, ⟨(some 28), (.len (.tmp 27) false), (some (23, true))⟩, ⟨(some 29), (.bin .eql (.tmp 28) (.const (.int .i64 0))), (some (23, true))⟩, ⟨(some 30), (.pick (.tmp 23) (.tmp 29) (.const (.bool false))), none⟩, ⟨(some 4), (.mv (.tmp 30)), none⟩] false) .ret) (.seq (.region [⟨(some 32), (.bin .eql (.tmp 8) (.const (.int .i64 2))), none⟩, ⟨(some 31), (.mv (.tmp 32)), none⟩] false) (.cond (.tmp 31) (.seq (.region [⟨(some 33), (.mv (.tmp 0)), none⟩, ⟨(some 34), (.nilc (.tmp 33)), none⟩, ⟨(some 35), (.fa (.tmp 34) 1), none⟩, ⟨(some 36), (.ld (.tmp 35) 1 false), none⟩, ⟨(some 37), (.bin .geq (.tmp 36) (.const (.int .i64 0))), none⟩, ⟨(some 38), (.mv (.tmp 37)), none⟩, ⟨(some 39), (.mv (.tmp 0)), (some (38, true))⟩, ⟨(some 40), (.nilc (.tmp 39)), (some (38, true))⟩, ⟨(some 41), (.fa (.tmp 40) 1), (some (38, true))⟩, ⟨(some 42), (.ld (.tmp 41) 1 false), (some (38, true))⟩, ⟨(some 43), (.mv (.tmp 1)), (some (38, true))⟩, ⟨(some 44), (.bin .lss (.tmp 42) (.tmp 43)), (some (38, true))⟩, ⟨(some 45), (.pick (.tmp 38) (.tmp 44) (.const (.bool false))), none⟩, ⟨(some 46), (.mv (.tmp 45)), none⟩, ⟨(some 47), (.mv (.tmp 0)), (some (46, true))⟩, ⟨(some 48), (.nilc (.tmp 47)), (some (46, true))⟩, ⟨(some 49), (.fa (.tmp 48) 2), (some (46, true))⟩, ⟨(some 50), (.ld (.tmp 49) 1 false), (some (46, true))⟩, ⟨(some 51), (.len (.tmp 50) false), (some (46, true))⟩, ⟨(some 52), (.bin .eql (.tmp 51) (.const (.int .i64 0))), (some (46, true))⟩, ⟨(some 53), (.pick (.tmp 46) (.tmp 52) (.const (.bool false))), none⟩, ⟨(some 4), (.mv (.tmp 53)), none⟩] false) .ret) (.seq (.region [⟨(some 55), (.bin .eql (.tmp 8) (.const (.int .i64 3))), none⟩, ⟨(some 54), (.mv (.tmp 55)), none⟩] false) (.cond (.tmp 54) (.seq (.region [⟨(some 56), (.mv (.tmp 0)), none⟩, ⟨(some 57), (.nilc (.tmp 56)), none⟩, ⟨(some 58), (.fa (.tmp 57) 1), none⟩, ⟨(some 59), (.ld (.tmp 58) 1 false), none⟩, ⟨(some 60), (.bin .eql (.tmp 59) (.const (.int .i64 0))), none⟩, ⟨(some 61), (.mv (.tmp 60)), none⟩, ⟨(some 62), (.mv (.tmp 0)), (some (61, true))⟩, ⟨(some 63), (.nilc (.tmp 62)), (some (61, true))⟩, ⟨(some 64), (.fa (.tmp 63) 2), (some (61, true))⟩, ⟨(some 65), (.ld (.tmp 64) 1 false), (some (61, true))⟩, ⟨(some 66), (.len (.tmp 65) false), (some (61, true))⟩, ⟨(some 67), (.bin .eql (.tmp 66) (.const (.int .i64 1))), (some (61, true))⟩, ⟨(some 68), (.pick (.tmp 61) (.tmp 67) (.const (.bool false))), none⟩, ⟨(some 69), (.mv (.tmp 68)), none⟩, ⟨(some 70), (.mv (.tmp 0)), (some (69, true))⟩, ⟨(some 71), (.nilc (.tmp 70)), (some (69, true))⟩, ⟨(some 72), (.fa (.tmp 71) 2), (some (69, true))⟩, ⟨(some 73), (.ld (.tmp 72) 1 false), (some (69, true))⟩, ⟨(some 74), (.ia (.tmp 73) (.const (.int .i64 0)) 3 false), (some (69, true))⟩, ⟨(some 75), (.mv (.tmp 1)), (some (69, true))⟩, ⟨(some 76), (.call F.level_formed [(.tmp 74), (.tmp 75)]), (some (69, true))⟩, ⟨(some 77), (.pick (.tmp 69) (.tmp 76) (.const (.bool false))), none⟩, ⟨(some 4), (.mv (.tmp 77)), none⟩] false) .ret) (.seq (.seq (.region [⟨(some 79), (.bin .eql (.tmp 8) (.const (.int .i64 4))), none⟩, ⟨(some 78), (.mv (.tmp 79)), none⟩] false) (.cond (.tmp 78) .skip (.region [⟨(some 80), (.bin .eql (.tmp 8) (.const (.int .i64 5))), none⟩, ⟨(some 78), (.mv (.tmp 80)), none⟩] false))) (.cond (.tmp 78) (.seq (.region [⟨(some 81), (.mv (.tmp 0)), none⟩, ⟨(some 82), (.nilc (.tmp 81)), none⟩, ⟨(some 83), (.fa (.tmp 82) 1), none⟩, ⟨(some 84), (.ld (.tmp 83) 1 false), none⟩, ⟨(some 85), (.bin .eql (.tmp 84) (.const (.int .i64 0))), none⟩, ⟨(some 86), (.mv (.tmp 85)), none⟩, ⟨(some 87), (.mv (.tmp 0)), (some (86, true))⟩, ⟨(some 88), (.nilc (.tmp 87)), (some (86, true))⟩, ⟨(some 89), (.fa (.tmp 88) 2), (some (86, true))⟩, ⟨(some 90), (.ld (.tmp 89) 1 false), (some (86, true))⟩, ⟨(some 91), (.len (.tmp 90) false), (some (86, true))⟩, ⟨(some 92), (.bin .eql (.tmp 91) (.const (.int .i64 2))), (some (86, true))⟩, ⟨(some 93), (.pick (.tmp 86) (.tmp 92) (.const (.bool false))), none⟩, ⟨(some 94), (.mv (.tmp 93)), none⟩, ⟨(some 95), (.mv (.tmp 0)), (some (94, true))⟩, ⟨(some 96), (.nilc (.tmp 95)), (some (94, true))⟩, ⟨(some 97), (.fa (.tmp 96) 2), (some (94, true))⟩, ⟨(some 98), (.ld (.tmp 97) 1 false), (some (94, true))⟩, ⟨(some 99), (.ia (.tmp 98) (.const (.int .i64 0)) 3 false), (some (94, true))⟩, ⟨(some 100), (.mv (.tmp 1)), (some (94, true))⟩, ⟨(some 101), (.call F.level_formed [(.tmp 99), (.tmp 100)]), (some (94, true))⟩, ⟨(some 102), (.pick (.tmp 94) (.tmp 101) (.const (.bool false))), none⟩, ⟨(some 103), (.mv (.tmp 102)), none⟩, ⟨(some 104), (.mv (.tmp 0)), (some (103, true))⟩, ⟨(some 105), (.nilc (.tmp 104)), (some (103, true))⟩, ⟨(some 106), (.fa (.tmp 105) 2), (some (103, true))⟩, ⟨(some 107), (.ld (.tmp 106) 1 false), (some (103, true))⟩, ⟨(some 108), (.ia (.tmp 107) (.const (.int .i64 1)) 3 false), (some (103, true))⟩, ⟨(some 109), (.mv (.tmp 1)), (some (103, true))⟩, ⟨(some 110), (.call F.level_formed [(.tmp 108), (.tmp 109)]), (some (103, true))⟩, ⟨(some 111), (.pick (.tmp 103) (.tmp 110) (.const (.bool false))), none⟩, ⟨(some 4), (.mv (.tmp 111)), none⟩] false) .ret) .skip)))))))))) (.seq (.region [⟨(some 4), (.mv (.const (.bool false))), none⟩] false) .ret)))
theorem is_level_formed : FnIs Try.prog ⟨[], [], [], []⟩ F.level_formed 112 mc_level_formed [(.tmp 4)] :=
  ⟨by kernel_rfl, _, _, Try.func131, rfl, by decide, rfl, by kernel_rfl, by kernel_rfl⟩
def mc_name_Right : MCode :=
  (.seq (.region [⟨(some 2), (.mv (.const (.bool false))), none⟩] false) (.seq (.seq (.region [⟨(some 5), (.mv (.tmp 0)), none⟩, ⟨(some 6), (.len (.tmp 5) true), none⟩, ⟨(some 7), (.bin .gtr (.tmp 6) (.const (.int .i64 40))), none⟩] false) (.cond (.tmp 7) (.seq (.region [⟨(some 2), (.mv (.const (.bool false))), none⟩] false) .ret) .skip)) (.seq (.region [⟨(some 3), (.al [(.bool false)]), none⟩, ⟨none, (.st (.tmp 3) (.const (.bool true)) 1 false), none⟩] false) (.seq (.region [⟨(some 8), (.mv (.tmp 0)), none⟩, ⟨(some 9), (.mkf F.name_Right_1 [(.tmp 3)]), none⟩, ⟨(some 10), (.call F.strings_IndexFunc [(.tmp 8), (.tmp 9)]), none⟩, ⟨(some 4), (.mv (.tmp 10)), none⟩] false) (.seq (.region [⟨(some 11), (.mv (.tmp 4)), none⟩, ⟨(some 12), (.bin .lss (.tmp 11) (.const (.int .i64 0))), none⟩, ⟨(some 13), (.mv (.tmp 12)), none⟩, ⟨(some 14), (.ld (.tmp 3) 1 false), (some (13, true))⟩, ⟨(some 15), (.un .not (.tmp 14)), (some (13, true))⟩, ⟨(some 16), (.pick (.tmp 13) (.tmp 15) (.const (.bool false))), none⟩, ⟨(some 2), (.mv (.tmp 16)), none⟩] false) .ret)))))
theorem is_name_Right : FnIs Try.prog ⟨[], [], [], []⟩ F.name_Right 17 mc_name_Right [(.tmp 2)] :=
  ⟨by kernel_rfl, _, _, Try.func132, rfl, by decide, rfl, by kernel_rfl, by kernel_rfl⟩
def mc_level_clone : MCode :=
  (.seq (.region [⟨(some 2), (.al [(.int .i64 0), (.int .i64 0), (.slice none 0 0)]), none⟩] false) (.seq (.region [⟨(some 5), (.mv (.tmp 0)), none⟩, ⟨(some 6), (.nilc (.tmp 5)), none⟩, ⟨(some 7), (.fa (.tmp 6) 0), none⟩, ⟨(some 8), (.ld (.tmp 7) 1 false), none⟩, ⟨(some 9), (.mv (.tmp 0)), none⟩, ⟨(some 10), (.nilc (.tmp 9)), none⟩, ⟨(some 11), (.fa (.tmp 10) 1), none⟩, ⟨(some 12), (.ld (.tmp 11) 1 false), none⟩, ⟨(some 13), (.bld [(.int .i64 0), (.int .i64 0), (.slice none 0 0)] [(0, (1, (.tmp 8))), (1, (1, (.tmp 12)))]), none⟩, ⟨(some 3), (.al [(.int .i64 0), (.int .i64 0), (.slice none 0 0)]), none⟩, ⟨none, (.st (.tmp 3) (.tmp 13) 3 false), none⟩] true) (.seq (.seq (.region [⟨(some 14), (.mv (.tmp 0)), none⟩, ⟨(some 15), (.nilc (.tmp 14)), none⟩, ⟨(some 16), (.fa (.tmp 15) 2), none⟩, ⟨(some 17), (.ld (.tmp 16) 1 false), none⟩, ⟨(some 18), (.len (.tmp 17) false), none⟩, ⟨(some 19), (.bin .gtr (.tmp 18) (.const (.int .i64 0))), none⟩] false) (.cond (.tmp 19) (.region [⟨(some 20), (.mv (.tmp 0)), none⟩, ⟨(some 21), (.nilc (.tmp 20)), none⟩, ⟨(some 22), (.fa (.tmp 21) 2), none⟩, ⟨(some 23), (.ld (.tmp 22) 1 false), none⟩, ⟨(some 24), (.len (.tmp 23) false), none⟩, ⟨(some 25), (.mks 3 40 [(.int .i64 0), (.int .i64 0), (.slice none 0 0)] (.tmp 24) (.tmp 24)), none⟩, ⟨(some 26), (.fa (.tmp 3) 2), none⟩, ⟨none, (.st (.tmp 26) (.tmp 25) 1 false), none⟩] false) .skip)) (.seq (.seq (.region [⟨(some 27), (.mv (.tmp 0)), none⟩, ⟨(some 28), (.nilc (.tmp 27)), none⟩, ⟨(some 29), (.fa (.tmp 28) 2), none⟩, ⟨(some 30), (.ld (.tmp 29) 1 false), none⟩, ⟨(some 31), (.len (.tmp 30) false), none⟩, ⟨(some 32), (.mv (.const (.int .i64 0))), none⟩] false) (.block 0 (.loop (.seq (.region [⟨(some 33), (.bin .lss (.tmp 32) (.tmp 31)), none⟩] false) (.seq (.cond (.tmp 33) .skip (.exit 0)) (.seq (.block 1 (.seq (.region [⟨(some 34), (.mv (.tmp 32)), none⟩, ⟨(some 4), (.mv (.tmp 34)), none⟩] false) (.region [⟨(some 35), (.fa (.tmp 3) 2), none⟩, ⟨(some 36), (.ld (.tmp 35) 1 false), none⟩, ⟨(some 37), (.mv (.tmp 4)), none⟩, ⟨(some 38), (.mv (.tmp 0)), none⟩, ⟨(some 39), (.nilc (.tmp 38)), none⟩, ⟨(some 40), (.fa (.tmp 39) 2), none⟩, ⟨(some 41), (.ld (.tmp 40) 1 false), none⟩, ⟨(some 42), (.mv (.tmp 4)), none⟩, ⟨(some 43), (.ia (.tmp 41) (.tmp 42) 3 false), none⟩, ⟨(some 44), (.call F.level_clone [(.tmp 43)]), none⟩, ⟨(some 45), (.ia (.tmp 36) (.tmp 37) 3 false), none⟩, ⟨none, (.st (.tmp 45) (.tmp 44) 3 false), none⟩] true))) (.region [⟨(some 46), (.bin .add (.tmp 32) (.const (.int .i64 1))), none⟩, ⟨(some 32), (.mv (.tmp 46)), none⟩] false))))))) (.seq (.region [⟨(some 47), (.ld (.tmp 3) 3 true), none⟩, ⟨none, (.st (.tmp 2) (.tmp 47) 3 true), none⟩] false) .ret)))))
theorem is_level_clone : FnIs Try.prog ⟨[], [2], [], []⟩ F.level_clone 48 mc_level_clone [(.cell 2 3 true)] :=
  ⟨by kernel_rfl, _, _, Try.func136, rfl, by decide, rfl, by kernel_rfl, by kernel_rfl⟩
def mc_level_nodes : MCode :=
  (.seq (.region [⟨(some 4), (.mv (.const (.int .i64 0))), none⟩] false) (.seq (.region [⟨(some 5), (.mv (.const (.int .i64 1))), none⟩] false) (.seq (.seq (.region [⟨(some 7), (.mv (.tmp 0)), none⟩, ⟨(some 8), (.nilc (.tmp 7)), none⟩, ⟨(some 9), (.fa (.tmp 8) 2), none⟩, ⟨(some 10), (.ld (.tmp 9) 1 false), none⟩, ⟨(some 11), (.len (.tmp 10) false), none⟩, ⟨(some 12), (.mv (.const (.int .i64 0))), none⟩] false) (.block 0 (.loop (.seq (.region [⟨(some 13), (.bin .lss (.tmp 12) (.tmp 11)), none⟩] false) (.seq (.cond (.tmp 13) .skip (.exit 0)) (.seq (.block 1 (.seq (.region [⟨(some 14), (.mv (.tmp 12)), none⟩, ⟨(some 6), (.mv (.tmp 14)), none⟩] false) (.seq (.seq (.region [⟨(some 15), (.mv (.tmp 5)), none⟩, ⟨(some 16), (.mv (.tmp 1)), none⟩, ⟨(some 17), (.bin .geq (.tmp 15) (.tmp 16)), none⟩] false) (.cond (.tmp 17) (.seq (.region [⟨(some 18), (.mv (.tmp 1)), none⟩, ⟨(some 4), (.mv (.tmp 18)), none⟩] false) .ret) .skip)) (.region [⟨(some 19), (.mv (.tmp 5)), none⟩, ⟨(some 20), (.mv (.tmp 0)), none⟩, ⟨(some 21), (.nilc (.tmp 20)), none⟩, ⟨(some 22), (.fa (.tmp 21) 2), none⟩, ⟨(some 23), (.ld (.tmp 22) 1 false), none⟩, ⟨(some 24), (.mv (.tmp 6)), none⟩, ⟨(some 25), (.ia (.tmp 23) (.tmp 24) 3 false), none⟩, ⟨(some 26), (.mv (.tmp 1)), none⟩, ⟨(some 27), (.mv (.tmp 5)), none⟩, ⟨(some 28), (.bin .sub (.tmp 26) (.tmp 27)), none⟩, ⟨(some 29), (.call F.level_nodes [(.tmp 25), (.tmp 28)]), none⟩, ⟨(some 30), (.bin .add (.tmp 19) (.tmp 29)), none⟩, ⟨(some 5), (.mv (.tmp 30)), none⟩] false)))) (.region [⟨(some 31), (.bin .add (.tmp 12) (.const (.int .i64 1))), none⟩, ⟨(some 12), (.mv (.tmp 31)), none⟩] false))))))) (.seq (.region [⟨(some 32), (.mv (.tmp 5)), none⟩, ⟨(some 4), (.mv (.tmp 32)), none⟩] false) .ret))))
theorem is_level_nodes : FnIs Try.prog ⟨[], [], [], []⟩ F.level_nodes 33 mc_level_nodes [(.tmp 4)] :=
  ⟨by kernel_rfl, _, _, Try.func140, rfl, by decide, rfl, by kernel_rfl, by kernel_rfl⟩
def mc_strings_IndexFunc : MCode :=
  (.seq (.region [⟨(some 4), (.mv (.const (.int .i64 0))), none⟩] false) (.seq (.region [⟨(some 5), (.mv (.tmp 0)), none⟩, ⟨(some 6), (.mv (.tmp 1)), none⟩, ⟨(some 7), (.call F.strings_indexFunc [(.tmp 5), (.tmp 6), (.const (.bool true))]), none⟩, ⟨(some 4), (.mv (.tmp 7)), none⟩] false) .ret))
theorem is_strings_IndexFunc : FnIs Try.prog ⟨[], [], [], []⟩ F.strings_IndexFunc 8 mc_strings_IndexFunc [(.tmp 4)] :=
  ⟨by kernel_rfl, _, _, Try.func141, rfl, by decide, rfl, by kernel_rfl, by kernel_rfl⟩
def mc_name_Right_1 : MCode :=
  (.seq (.region [⟨(some 3), (.mv (.const (.bool false))), none⟩] false) (.seq (.region [⟨(some 5), (.ld (.tmp 1) 1 false), none⟩, ⟨(some 4), (.mv (.tmp 5)), none⟩] false) (.seq (.region [⟨(some 6), (.mv (.tmp 0)), none⟩, ⟨(some 7), (.bin .eql (.tmp 6) (.const (.int .i32 46))), none⟩, ⟨none, (.st (.tmp 1) (.tmp 7) 1 false), none⟩] false) (.seq (.region [⟨(some 8), (.mv (.tmp 0)), none⟩, ⟨(some 9), (.mv (.tmp 4)), none⟩, ⟨(some 10), (.call F.name_plain [(.tmp 8), (.tmp 9)]), none⟩, ⟨(some 11), (.un .not (.tmp 10)), none⟩, ⟨(some 3), (.mv (.tmp 11)), none⟩] false) .ret))))
theorem is_name_Right_1 : FnIs Try.prog ⟨[], [], [], []⟩ F.name_Right_1 12 mc_name_Right_1 [(.tmp 3)] :=
  ⟨by kernel_rfl, _, _, Try.func142, rfl, by decide, rfl, by kernel_rfl, by kernel_rfl⟩
def mc_name_plain : MCode :=
  (.seq (.region [⟨(some 4), (.mv (.const (.bool false))), none⟩] false) (.seq (.block 0 (.seq (.region [⟨(some 6), (.mv (.tmp 0)), none⟩, ⟨(some 7), (.bin .eql (.tmp 6) (.const (.int .i32 95))), none⟩, ⟨(some 8), (.mv (.tmp 7)), none⟩, ⟨(some 9), (.mv (.tmp 0)), (some (8, false))⟩, ⟨(some 10), (.bin .geq (.tmp 9) (.const (.int .i32 97))), (some (8, false))⟩, ⟨(some 11), (.mv (.tmp 10)), (some (8, false))⟩, ⟨(some 12), (.mv (.tmp 0)), (some (11, true))⟩, ⟨(some 13), (.bin .leq (.tmp 12) (.const (.int .i32 122))), (some (11, true))⟩, ⟨(some 14), (.pick (.tmp 11) (.tmp 13) (.const (.bool false))), (some (8, false))⟩, ⟨(some 15), (.pick (.tmp 8) (.const (.bool true)) (.tmp 14)), none⟩, ⟨(some 5), (.mv (.tmp 15)), none⟩] false) (.cond (.tmp 5) (.seq (.region [⟨(some 4), (.mv (.const (.bool true))), none⟩] false) .ret) (.seq (.region [⟨(some 17), (.mv (.tmp 0)), none⟩, ⟨(some 18), (.bin .eql (.tmp 17) (.const (.int .i32 46))), none⟩, ⟨(some 19), (.mv (.tmp 18)), none⟩, ⟨(some 20), (.mv (.tmp 0)), (some (19, false))⟩, ⟨(some 21), (.bin .geq (.tmp 20) (.const (.int .i32 48))), (some (19, false))⟩, ⟨(some 22), (.mv (.tmp 21)), (some (19, false))⟩, ⟨(some 23), (.mv (.tmp 0)), (some (22, true))⟩, ⟨(some 24), (.bin .leq (.tmp 23) (.const (.int .i32 57))), (some (22, true))⟩, ⟨(some 25), (.pick (.tmp 22) (.tmp 24) (.const (.bool false))), (some (19, false))⟩, ⟨(some 26), (.pick (.tmp 19) (.const (.bool true)) (.tmp 25)), none⟩, ⟨(some 16), (.mv (.tmp 26)), none⟩] false) (.cond (.tmp 16) (.seq (.region [⟨(some 27), (.mv (.tmp 1)), none⟩, ⟨(some 28), (.un .not (.tmp 27)), none⟩, ⟨(some 4), (.mv (.tmp 28)), none⟩] false) .ret) .skip))))) (.seq (.region [⟨(some 4), (.mv (.const (.bool false))), none⟩] false) .ret)))
theorem is_name_plain : FnIs Try.prog ⟨[], [], [], []⟩ F.name_plain 29 mc_name_plain [(.tmp 4)] :=
  ⟨by kernel_rfl, _, _, Try.func143, rfl, by decide, rfl, by kernel_rfl, by kernel_rfl⟩
def mc_strings_indexFunc : MCode :=
  (.seq (.region [⟨(some 6), (.mv (.const (.int .i64 0))), none⟩] false) (.seq (.seq (.region [⟨(some 9), (.mv (.tmp 0)), none⟩, ⟨(some 10), (.rng (.tmp 9)), none⟩] false) (.block 0 (.loop (.seq (.region [⟨(some 11), (.nxt (.tmp 10)), none⟩, ⟨(some 12), (.ext (.tmp 11) 0), none⟩] false) (.seq (.cond (.tmp 12) .skip (.exit 0)) (.block 1 (.seq (.region [⟨(some 13), (.ext (.tmp 11) 1), none⟩, ⟨(some 14), (.ext (.tmp 11) 2), none⟩, ⟨(some 7), (.mv (.tmp 13)), none⟩, ⟨(some 8), (.mv (.tmp 14)), none⟩] false) (.seq (.region [⟨(some 15), (.mv (.tmp 1)), none⟩, ⟨(some 16), (.mv (.tmp 8)), none⟩, ⟨(some 17), (.calv (.tmp 15) [(.tmp 16)]), none⟩, ⟨(some 18), (.mv (.tmp 2)), none⟩, ⟨(some 19), (.eqa false .bool (.tmp 17) (.tmp 18)), none⟩] false) (.cond (.tmp 19) (.seq (.region [⟨(some 20), (.mv (.tmp 7)), none⟩, ⟨(some 6), (.mv (.tmp 20)), none⟩] false) .ret) .skip))))))))) (.seq (.region [⟨(some 6), (.mv (.const (.int .i64 (-1)))), none⟩] false) .ret)))
theorem is_strings_indexFunc : FnIs Try.prog ⟨[], [], [], []⟩ F.strings_indexFunc 21 mc_strings_indexFunc [(.tmp 6)] :=
  ⟨by kernel_rfl, _, _, Try.func157, rfl, by decide, rfl, by kernel_rfl, by kernel_rfl⟩
end
section
inductive Lv where
  | mk (kind n : Int) (args : List Lv)
mutual
def Lv.nodes : Lv → Nat
  | .mk _ _ args => 1 + nodesL args
def nodesL : List Lv → Nat
  | [] => 0
  | x :: r => x.nodes + nodesL r
end
def Lv.pv : Lv → List PV
  | .mk k n args => [.sc (.int .i64 k), .sc (.int .i64 n), .sl 3 (args.map Lv.pv)]
theorem pv_len (l : Lv) : l.pv.length = 3 := by cases l; simp [Lv.pv]
theorem pv_take (l : Lv) : l.pv.take 3 = l.pv := List.take_of_length_le (by rw [pv_len]; omega)
theorem nodesL_take_succ : ∀ (ls : List Lv) (k : Nat) (h : k < ls.length), nodesL (ls.take (k + 1)) = nodesL (ls.take k) + ls[k].nodes
  | x :: r, 0, h => by simp [nodesL]
  | x :: r, k + 1, h => by
    have := nodesL_take_succ r k (by simpa using h)
    simp only [List.take_succ_cons, nodesL, List.getElem_cons_succ, this]
    omega
theorem nodesL_append : ∀ a b : List Lv, nodesL (a ++ b) = nodesL a + nodesL b
  | [], b => by simp [nodesL]
  | x :: r, b => by simp only [List.cons_append, nodesL, nodesL_append r b]; omega
theorem nodesL_take_le (ls : List Lv) (k : Nat) : nodesL (ls.take k) ≤ nodesL ls := by
  have h := nodesL_append (ls.take k) (ls.drop k)
  rw [List.take_append_drop] at h
  omega
theorem nodesL_mem (ls : List Lv) (k : Nat) (h : k < ls.length) : ls[k].nodes ≤ nodesL ls := by
  have h1 := nodesL_take_succ ls k h
  have h2 := nodesL_take_le ls (k + 1)
  omega
theorem nodes_pos (l : Lv) : 0 < l.nodes := by cases l; simp only [Lv.nodes]; omega
theorem nodes_p : ∀ (fuel : Nat) (l : Lv) (most : Nat), l.nodes ≤ fuel ∨ most ≤ fuel → 1 ≤ most → most ≤ 3000 →
    PPure Try.prog F.level_nodes [.ptr l.pv, .sc (.int .i64 most)] (.sc (.int .i64 (min l.nodes most : Nat))) := by
  intro fuel
  induction fuel with
  | zero => intro l most h h1; have := nodes_pos l; omega
  | succ fuel ih =>
    intro l most hf h1 h2
    cases l with
    | mk k n args =>
    simp only [Lv.nodes] at hf
    refine pure_by is_level_nodes (by simp) rfl fun hb nx => ?_
    have hb0 : args.length ≤ 9223372036854775807 := by simp [Lv.pv, bndL, PV.bnd] at hb; exact hb.1
    simp (maxSteps := 1000000) (disch := omega) only [go_sem, Nat.reduceAdd, Nat.reduceMul, Nat.reduceSub, Nat.reduceLeDiff, Nat.reduceEqDiff, Nat.reduceBEq, ↓reduceIte, reduceCtorEq, Int.reduceEq, Int.reduceLE, Int.reduceLT, Int.reduceAdd, Int.reduceSub, Int.reduceNeg, Int.reduceToNat, Int.reduceNe, Nat.reducePow, Nat.reduceShiftRight, Nat.reduceMod, mc_level_nodes, Lv.pv]
    refine c_loop (fun j s => ∃ i t : Nat, j = args.length - i ∧ i ≤ args.length ∧ t = min (1 + nodesL (args.take i)) most ∧ s.s 0 = .ptr (Lv.mk k n args).pv ∧ s.s 1 = .sc (.int .i64 most) ∧ s.s 5 = .sc (.int .i64 t) ∧ s.s 11 = .sc (.int .i64 args.length) ∧ s.s 12 = .sc (.int .i64 i)) _ ⟨0, 1, rfl, by omega, by simp [nodesL]; omega, by simp [upd, sigF, sig_eq, Lv.pv]⟩ ?_
    rintro _ s ⟨i, t, rfl, hi, ht, e0, e1, e5, e11, e12⟩
    simp (maxSteps := 1000000) (disch := omega) only [go_sem, Nat.reduceAdd, Nat.reduceMul, Nat.reduceSub, Nat.reduceLeDiff, Nat.reduceEqDiff, Nat.reduceBEq, ↓reduceIte, reduceCtorEq, Int.reduceEq, Int.reduceLE, Int.reduceLT, Int.reduceAdd, Int.reduceSub, Int.reduceNeg, Int.reduceToNat, Int.reduceNe, Nat.reducePow, Nat.reduceShiftRight, Nat.reduceMod, Lv.pv, e0, e1, e5, e11, e12]
    by_cases hlt : i < args.length
    · have hs := nodesL_take_succ args i hlt
      have hp := nodes_pos args[i]
      simp (maxSteps := 1000000) (disch := omega) only [go_sem, Nat.reduceAdd, Nat.reduceMul, Nat.reduceSub, Nat.reduceLeDiff, Nat.reduceEqDiff, Nat.reduceBEq, ↓reduceIte, reduceCtorEq, Int.reduceEq, Int.reduceLE, Int.reduceLT, Int.reduceAdd, Int.reduceSub, Int.reduceNeg, Int.reduceToNat, Int.reduceNe, Nat.reducePow, Nat.reduceShiftRight, Nat.reduceMod, hlt, Lv.pv, e0, e1, e5, e11, e12]
      by_cases hfull : most ≤ t
      · simp (maxSteps := 1000000) (disch := omega) only [go_sem, Nat.reduceAdd, Nat.reduceMul, Nat.reduceSub, Nat.reduceLeDiff, Nat.reduceEqDiff, Nat.reduceBEq, ↓reduceIte, reduceCtorEq, Int.reduceEq, Int.reduceLE, Int.reduceLT, Int.reduceAdd, Int.reduceSub, Int.reduceNeg, Int.reduceToNat, Int.reduceNe, Nat.reducePow, Nat.reduceShiftRight, Nat.reduceMod, hfull, Lv.pv, e0, e1, e5, e11, e12]
        refine fin_tmp (.inr rfl) ?_
        have := nodesL_take_le args i
        simp only [go_sem, Nat.reduceAdd, Nat.reduceMul, Nat.reduceSub, Nat.reduceLeDiff, Nat.reduceEqDiff, Nat.reduceBEq, ↓reduceIte, reduceCtorEq, Int.reduceEq, Int.reduceLE, Int.reduceLT, Int.reduceAdd, Int.reduceSub, Int.reduceNeg, Int.reduceToNat, Int.reduceNe, Nat.reducePow, Nat.reduceShiftRight, Nat.reduceMod, Lv.nodes, PV.sc.injEq, Value.int.injEq]
        omega
      · have em : ((most : Int) - t) = ((most - t : Nat) : Int) := by omega
        have eg : args[i]? = some args[i] := List.getElem?_eq_getElem hlt
        simp (maxSteps := 1000000) (disch := omega) only [go_sem, Nat.reduceAdd, Nat.reduceMul, Nat.reduceSub, Nat.reduceLeDiff, Nat.reduceEqDiff, Nat.reduceBEq, ↓reduceIte, reduceCtorEq, Int.reduceEq, Int.reduceLE, Int.reduceLT, Int.reduceAdd, Int.reduceSub, Int.reduceNeg, Int.reduceToNat, Int.reduceNe, Nat.reducePow, Nat.reduceShiftRight, Nat.reduceMod, hfull, Lv.pv, e0, e1, e5, e11, e12, em, eg]
        refine call_pure (ih args[i] (most - t) (by have := nodesL_mem args i hlt; omega) (by omega) (by omega)) ?_
        simp (maxSteps := 1000000) (disch := omega) only [go_sem, Nat.reduceAdd, Nat.reduceMul, Nat.reduceSub, Nat.reduceLeDiff, Nat.reduceEqDiff, Nat.reduceBEq, ↓reduceIte, reduceCtorEq, Int.reduceEq, Int.reduceLE, Int.reduceLT, Int.reduceAdd, Int.reduceSub, Int.reduceNeg, Int.reduceToNat, Int.reduceNe, Nat.reducePow, Nat.reduceShiftRight, Nat.reduceMod, hfull, Lv.pv, e0, e1, e5, e11, e12, em, eg]
        exact ⟨args.length - (i + 1), by omega, i + 1, t + min args[i].nodes (most - t), rfl, by omega, by omega, by simp, by simp⟩
    · simp (maxSteps := 1000000) (disch := omega) only [go_sem, Nat.reduceAdd, Nat.reduceMul, Nat.reduceSub, Nat.reduceLeDiff, Nat.reduceEqDiff, Nat.reduceBEq, ↓reduceIte, reduceCtorEq, Int.reduceEq, Int.reduceLE, Int.reduceLT, Int.reduceAdd, Int.reduceSub, Int.reduceNeg, Int.reduceToNat, Int.reduceNe, Nat.reducePow, Nat.reduceShiftRight, Nat.reduceMod, hlt, Lv.pv, e0, e1, e5, e11, e12]
      refine fin_tmp (.inr rfl) ?_
      have hj : i = args.length := by omega
      subst hj
      rw [List.take_length] at ht
      simp only [go_sem, Nat.reduceAdd, Nat.reduceMul, Nat.reduceSub, Nat.reduceLeDiff, Nat.reduceEqDiff, Nat.reduceBEq, ↓reduceIte, reduceCtorEq, Int.reduceEq, Int.reduceLE, Int.reduceLT, Int.reduceAdd, Int.reduceSub, Int.reduceNeg, Int.reduceToNat, Int.reduceNe, Nat.reducePow, Nat.reduceShiftRight, Nat.reduceMod, Lv.nodes, PV.sc.injEq, Value.int.injEq]
      omega
theorem Nodes_p (l : Lv) : PPure Try.prog F.level_Nodes [.agg l.pv] (.sc (.int .i64 (min l.nodes 65 : Nat))) := by
  refine pure_by is_level_Nodes (by simp) rfl fun hb nx => ?_
  simp (maxSteps := 1000000) (disch := omega) only [go_sem, Nat.reduceAdd, Nat.reduceMul, Nat.reduceSub, Nat.reduceLeDiff, Nat.reduceEqDiff, Nat.reduceBEq, ↓reduceIte, reduceCtorEq, Int.reduceEq, Int.reduceLE, Int.reduceLT, Int.reduceAdd, Int.reduceSub, Int.reduceNeg, Int.reduceToNat, Int.reduceNe, Nat.reducePow, Nat.reduceShiftRight, Nat.reduceMod, mc_level_Nodes]
  refine call_pure (nodes_p l.nodes l 65 (by omega) (by omega) (by omega)) ?_
  simp (maxSteps := 1000000) (disch := omega) only [go_sem, Nat.reduceAdd, Nat.reduceMul, Nat.reduceSub, Nat.reduceLeDiff, Nat.reduceEqDiff, Nat.reduceBEq, ↓reduceIte, reduceCtorEq, Int.reduceEq, Int.reduceLE, Int.reduceLT, Int.reduceAdd, Int.reduceSub, Int.reduceNeg, Int.reduceToNat, Int.reduceNe, Nat.reducePow, Nat.reduceShiftRight, Nat.reduceMod]
  exact fin_tmp (.inr rfl) (by simp [upd])
theorem LevelNodes_p (most : Nat) (hm : most ≤ 1000000) : ∀ (fuel : Nat) (l : Lv), l.nodes ≤ fuel →
    PPure Try.prog F.ref00_LevelNodes [.agg l.pv, .sc (.int .i64 most)] (.sc (.int .i64 (min l.nodes (most + 1) : Nat))) := by
  intro fuel
  induction fuel with
  | zero => intro l h; have := nodes_pos l; omega
  | succ fuel ih =>
    intro l hf
    cases l with
    | mk k n args =>
    simp only [Lv.nodes] at hf
    refine pure_by is_ref00_LevelNodes (by simp) rfl fun hb nx => ?_
    have hb0 : args.length ≤ 9223372036854775807 := by simp [Lv.pv, bndL, PV.bnd] at hb; exact hb.1
    simp (maxSteps := 1000000) (disch := omega) only [go_sem, Nat.reduceAdd, Nat.reduceMul, Nat.reduceSub, Nat.reduceLeDiff, Nat.reduceEqDiff, Nat.reduceBEq, ↓reduceIte, reduceCtorEq, Int.reduceEq, Int.reduceLE, Int.reduceLT, Int.reduceAdd, Int.reduceSub, Int.reduceNeg, Int.reduceToNat, Int.reduceNe, Nat.reducePow, Nat.reduceShiftRight, Nat.reduceMod, mc_ref00_LevelNodes, Lv.pv]
    refine c_loop (fun j s => ∃ i t : Nat, j = args.length - i ∧ i ≤ args.length ∧ min t (most + 1) = min (1 + nodesL (args.take i)) (most + 1) ∧ t ≤ 2 * most + 1 ∧ s.s 2 = .ptr (Lv.mk k n args).pv ∧ s.s 1 = .sc (.int .i64 most) ∧ s.s 5 = .sc (.int .i64 t) ∧ s.s 6 = .sc (.int .i64 i)) _ ⟨0, 1, rfl, by omega, by simp [nodesL], by omega, by simp [upd, sigF, sig_eq, Lv.pv]⟩ ?_
    rintro _ s ⟨i, t, rfl, hi, ht, ht2, e2, e1, e5, e6⟩
    by_cases hlt : i < args.length
    · by_cases hfull : t ≤ most
      · have eg : args[i]? = some args[i] := List.getElem?_eq_getElem hlt
        have hs := nodesL_take_succ args i hlt
        simp (maxSteps := 1000000) (disch := omega) only [go_sem, Nat.reduceAdd, Nat.reduceMul, Nat.reduceSub, Nat.reduceLeDiff, Nat.reduceEqDiff, Nat.reduceBEq, ↓reduceIte, reduceCtorEq, Int.reduceEq, Int.reduceLE, Int.reduceLT, Int.reduceAdd, Int.reduceSub, Int.reduceNeg, Int.reduceToNat, Int.reduceNe, Nat.reducePow, Nat.reduceShiftRight, Nat.reduceMod, Lv.pv, e1, e2, e5, e6, hlt, hfull, eg, pv_len, pv_take]
        refine call_pure (ih args[i] (by have := nodesL_mem args i hlt; omega)) ?_
        simp (maxSteps := 1000000) (disch := omega) only [go_sem, Nat.reduceAdd, Nat.reduceMul, Nat.reduceSub, Nat.reduceLeDiff, Nat.reduceEqDiff, Nat.reduceBEq, ↓reduceIte, reduceCtorEq, Int.reduceEq, Int.reduceLE, Int.reduceLT, Int.reduceAdd, Int.reduceSub, Int.reduceNeg, Int.reduceToNat, Int.reduceNe, Nat.reducePow, Nat.reduceShiftRight, Nat.reduceMod, Lv.pv, e1, e2, e5, e6, hlt, hfull, eg, pv_len, pv_take]
        exact ⟨args.length - (i + 1), by omega, i + 1, t + min args[i].nodes (most + 1), rfl, by omega, by omega, by omega, by simp, by simp⟩
      · simp (maxSteps := 1000000) (disch := omega) only [go_sem, Nat.reduceAdd, Nat.reduceMul, Nat.reduceSub, Nat.reduceLeDiff, Nat.reduceEqDiff, Nat.reduceBEq, ↓reduceIte, reduceCtorEq, Int.reduceEq, Int.reduceLE, Int.reduceLT, Int.reduceAdd, Int.reduceSub, Int.reduceNeg, Int.reduceToNat, Int.reduceNe, Nat.reducePow, Nat.reduceShiftRight, Nat.reduceMod, Lv.pv, e1, e2, e5, e6, hlt, hfull]
        refine fin_tmp (.inr rfl) ?_
        have := nodesL_take_le args i
        simp (maxSteps := 1000000) (disch := omega) only [go_sem, Nat.reduceAdd, Nat.reduceMul, Nat.reduceSub, Nat.reduceLeDiff, Nat.reduceEqDiff, Nat.reduceBEq, ↓reduceIte, reduceCtorEq, Int.reduceEq, Int.reduceLE, Int.reduceLT, Int.reduceAdd, Int.reduceSub, Int.reduceNeg, Int.reduceToNat, Int.reduceNe, Nat.reducePow, Nat.reduceShiftRight, Nat.reduceMod, Lv.nodes, PV.sc.injEq, Value.int.injEq]
        omega
    · simp (maxSteps := 1000000) (disch := omega) only [go_sem, Nat.reduceAdd, Nat.reduceMul, Nat.reduceSub, Nat.reduceLeDiff, Nat.reduceEqDiff, Nat.reduceBEq, ↓reduceIte, reduceCtorEq, Int.reduceEq, Int.reduceLE, Int.reduceLT, Int.reduceAdd, Int.reduceSub, Int.reduceNeg, Int.reduceToNat, Int.reduceNe, Nat.reducePow, Nat.reduceShiftRight, Nat.reduceMod, Lv.pv, e1, e2, e5, e6, hlt]
      refine fin_tmp (.inr rfl) ?_
      have hj : i = args.length := by omega
      subst hj
      rw [List.take_length] at ht
      simp (maxSteps := 1000000) (disch := omega) only [go_sem, Nat.reduceAdd, Nat.reduceMul, Nat.reduceSub, Nat.reduceLeDiff, Nat.reduceEqDiff, Nat.reduceBEq, ↓reduceIte, reduceCtorEq, Int.reduceEq, Int.reduceLE, Int.reduceLT, Int.reduceAdd, Int.reduceSub, Int.reduceNeg, Int.reduceToNat, Int.reduceNe, Nat.reducePow, Nat.reduceShiftRight, Nat.reduceMod, Lv.nodes, PV.sc.injEq, Value.int.injEq]
      omega
end
section
mutual
def Lv.formed (np : Int) : Lv → Bool
  | .mk k n args =>
    if k = 1 then decide (0 ≤ n) && (decide (n ≤ 100) && decide (args.length = 0))
    else if k = 2 then decide (0 ≤ n) && (decide (n < np) && decide (args.length = 0))
    else if k = 3 then decide (n = 0) && (decide (args.length = 1) && formedL np args)
    else if k = 4 ∨ k = 5 then decide (n = 0) && (decide (args.length = 2) && formedL np args)
    else false
def formedL (np : Int) : List Lv → Bool
  | [] => true
  | x :: r => x.formed np && formedL np r
end
def B (b : Bool) : PV := .sc (.bool b)
def I (n : Int) : PV := .sc (.int .i64 n)
set_option maxHeartbeats 8000000 in
theorem formed_p (np : Int) : ∀ (fuel : Nat) (l : Lv), l.nodes ≤ fuel → PPure Try.prog F.level_formed [.ptr l.pv, .sc (.int .i64 np)] (.sc (.bool (l.formed np))) := by
  intro fuel
  induction fuel with
  | zero => intro l h; have := nodes_pos l; omega
  | succ fuel ih =>
    intro l hf
    cases l with
    | mk k n args =>
    simp only [Lv.nodes] at hf
    refine pure_by is_level_formed (by simp) rfl fun hb nx => ?_
    by_cases k1 : k = 1
    · subst k1
      by_cases h1 : 0 ≤ n <;> by_cases h2 : n ≤ 100 <;> by_cases h3 : args.length = 0 <;>
        (simp (maxSteps := 1000000) (disch := omega) only [go_sem, Nat.reduceAdd, Nat.reduceMul, Nat.reduceSub, Nat.reduceLeDiff, Nat.reduceEqDiff, Nat.reduceBEq, ↓reduceIte, reduceCtorEq, Int.reduceEq, Int.reduceLE, Int.reduceLT, Int.reduceAdd, Int.reduceSub, Int.reduceNeg, Int.reduceToNat, Int.reduceNe, Nat.reducePow, Nat.reduceShiftRight, Nat.reduceMod, mc_level_formed, Lv.pv, h1, h2, h3]
         exact fin_tmp (.inr rfl) (by simp [upd, Lv.formed, h1, h2, h3]))
    · by_cases k2 : k = 2
      · subst k2
        by_cases h1 : 0 ≤ n <;> by_cases h2 : n < np <;> by_cases h3 : args.length = 0 <;>
          (simp (maxSteps := 1000000) (disch := omega) only [go_sem, Nat.reduceAdd, Nat.reduceMul, Nat.reduceSub, Nat.reduceLeDiff, Nat.reduceEqDiff, Nat.reduceBEq, ↓reduceIte, reduceCtorEq, Int.reduceEq, Int.reduceLE, Int.reduceLT, Int.reduceAdd, Int.reduceSub, Int.reduceNeg, Int.reduceToNat, Int.reduceNe, Nat.reducePow, Nat.reduceShiftRight, Nat.reduceMod, mc_level_formed, Lv.pv, h1, h2, h3]
           exact fin_tmp (.inr rfl) (by simp [upd, Lv.formed, h1, h2, h3]))
      · by_cases k3 : k = 3
        · subst k3
          by_cases h1 : n = 0
          · subst h1
            by_cases h2 : args.length = 1
            · match args, h2 with
              | [x], _ =>
                have hx := ih x (by simp only [nodesL] at hf; omega)
                simp (maxSteps := 1000000) (disch := omega) only [go_sem, Nat.reduceAdd, Nat.reduceMul, Nat.reduceSub, Nat.reduceLeDiff, Nat.reduceEqDiff, Nat.reduceBEq, ↓reduceIte, reduceCtorEq, Int.reduceEq, Int.reduceLE, Int.reduceLT, Int.reduceAdd, Int.reduceSub, Int.reduceNeg, Int.reduceToNat, Int.reduceNe, Nat.reducePow, Nat.reduceShiftRight, Nat.reduceMod, mc_level_formed, Lv.pv]
                refine call_pure hx ?_
                cases hc : x.formed np <;>
                  (simp (maxSteps := 1000000) (disch := omega) only [go_sem, Nat.reduceAdd, Nat.reduceMul, Nat.reduceSub, Nat.reduceLeDiff, Nat.reduceEqDiff, Nat.reduceBEq, ↓reduceIte, reduceCtorEq, Int.reduceEq, Int.reduceLE, Int.reduceLT, Int.reduceAdd, Int.reduceSub, Int.reduceNeg, Int.reduceToNat, Int.reduceNe, Nat.reducePow, Nat.reduceShiftRight, Nat.reduceMod, Lv.pv]
                   exact fin_tmp (.inr rfl) (by simp [upd, Lv.formed, formedL, hc]))
            · have h3 : ¬ (args.length : Int) = 1 := by omega
              simp (maxSteps := 1000000) (disch := omega) only [go_sem, Nat.reduceAdd, Nat.reduceMul, Nat.reduceSub, Nat.reduceLeDiff, Nat.reduceEqDiff, Nat.reduceBEq, ↓reduceIte, reduceCtorEq, Int.reduceEq, Int.reduceLE, Int.reduceLT, Int.reduceAdd, Int.reduceSub, Int.reduceNeg, Int.reduceToNat, Int.reduceNe, Nat.reducePow, Nat.reduceShiftRight, Nat.reduceMod, mc_level_formed, Lv.pv, h3]
              exact fin_tmp (.inr rfl) (by simp [upd, Lv.formed, h2])
          · simp (maxSteps := 1000000) (disch := omega) only [go_sem, Nat.reduceAdd, Nat.reduceMul, Nat.reduceSub, Nat.reduceLeDiff, Nat.reduceEqDiff, Nat.reduceBEq, ↓reduceIte, reduceCtorEq, Int.reduceEq, Int.reduceLE, Int.reduceLT, Int.reduceAdd, Int.reduceSub, Int.reduceNeg, Int.reduceToNat, Int.reduceNe, Nat.reducePow, Nat.reduceShiftRight, Nat.reduceMod, mc_level_formed, Lv.pv, h1]
            exact fin_tmp (.inr rfl) (by simp [upd, Lv.formed, h1])
        · by_cases k45 : k = 4 ∨ k = 5
          · have hk : (Lv.mk k n args).formed np = (decide (n = 0) && (decide (args.length = 2) && formedL np args)) := by simp only [Lv.formed, if_neg k1, if_neg k2, if_neg k3, if_pos k45]
            rcases k45 with rfl | rfl
            all_goals
              by_cases h1 : n = 0
              · subst h1
                by_cases h2 : args.length = 2
                · match args, h2 with
                  | [x, y], _ =>
                    have hx := ih x (by simp only [nodesL] at hf; omega)
                    have hy := ih y (by simp only [nodesL] at hf; omega)
                    simp (maxSteps := 1000000) (disch := omega) only [go_sem, Nat.reduceAdd, Nat.reduceMul, Nat.reduceSub, Nat.reduceLeDiff, Nat.reduceEqDiff, Nat.reduceBEq, ↓reduceIte, reduceCtorEq, Int.reduceEq, Int.reduceLE, Int.reduceLT, Int.reduceAdd, Int.reduceSub, Int.reduceNeg, Int.reduceToNat, Int.reduceNe, Nat.reducePow, Nat.reduceShiftRight, Nat.reduceMod, mc_level_formed, Lv.pv]
                    refine call_pure hx ?_
                    cases hc : x.formed np
                    · simp (maxSteps := 1000000) (disch := omega) only [go_sem, Nat.reduceAdd, Nat.reduceMul, Nat.reduceSub, Nat.reduceLeDiff, Nat.reduceEqDiff, Nat.reduceBEq, ↓reduceIte, reduceCtorEq, Int.reduceEq, Int.reduceLE, Int.reduceLT, Int.reduceAdd, Int.reduceSub, Int.reduceNeg, Int.reduceToNat, Int.reduceNe, Nat.reducePow, Nat.reduceShiftRight, Nat.reduceMod, Lv.pv]
                      exact fin_tmp (.inr rfl) (by simp [upd, hk, formedL, hc])
                    · simp (maxSteps := 1000000) (disch := omega) only [go_sem, Nat.reduceAdd, Nat.reduceMul, Nat.reduceSub, Nat.reduceLeDiff, Nat.reduceEqDiff, Nat.reduceBEq, ↓reduceIte, reduceCtorEq, Int.reduceEq, Int.reduceLE, Int.reduceLT, Int.reduceAdd, Int.reduceSub, Int.reduceNeg, Int.reduceToNat, Int.reduceNe, Nat.reducePow, Nat.reduceShiftRight, Nat.reduceMod, Lv.pv]
                      refine call_pure hy ?_
                      simp (maxSteps := 1000000) (disch := omega) only [go_sem, Nat.reduceAdd, Nat.reduceMul, Nat.reduceSub, Nat.reduceLeDiff, Nat.reduceEqDiff, Nat.reduceBEq, ↓reduceIte, reduceCtorEq, Int.reduceEq, Int.reduceLE, Int.reduceLT, Int.reduceAdd, Int.reduceSub, Int.reduceNeg, Int.reduceToNat, Int.reduceNe, Nat.reducePow, Nat.reduceShiftRight, Nat.reduceMod, Lv.pv]
                      exact fin_tmp (.inr rfl) (by simp [upd, hk, formedL, hc])
                · have h3 : ¬ (args.length : Int) = 2 := by omega
                  simp (maxSteps := 1000000) (disch := omega) only [go_sem, Nat.reduceAdd, Nat.reduceMul, Nat.reduceSub, Nat.reduceLeDiff, Nat.reduceEqDiff, Nat.reduceBEq, ↓reduceIte, reduceCtorEq, Int.reduceEq, Int.reduceLE, Int.reduceLT, Int.reduceAdd, Int.reduceSub, Int.reduceNeg, Int.reduceToNat, Int.reduceNe, Nat.reducePow, Nat.reduceShiftRight, Nat.reduceMod, mc_level_formed, Lv.pv, h3]
                  exact fin_tmp (.inr rfl) (by simp [upd, hk, h2])
              · simp (maxSteps := 1000000) (disch := omega) only [go_sem, Nat.reduceAdd, Nat.reduceMul, Nat.reduceSub, Nat.reduceLeDiff, Nat.reduceEqDiff, Nat.reduceBEq, ↓reduceIte, reduceCtorEq, Int.reduceEq, Int.reduceLE, Int.reduceLT, Int.reduceAdd, Int.reduceSub, Int.reduceNeg, Int.reduceToNat, Int.reduceNe, Nat.reducePow, Nat.reduceShiftRight, Nat.reduceMod, mc_level_formed, Lv.pv, h1]
                exact fin_tmp (.inr rfl) (by simp [upd, hk, h1])
          · have k4 : ¬ k = 4 := fun e => k45 (.inl e)
            have k5 : ¬ k = 5 := fun e => k45 (.inr e)
            simp (maxSteps := 1000000) (disch := omega) only [go_sem, Nat.reduceAdd, Nat.reduceMul, Nat.reduceSub, Nat.reduceLeDiff, Nat.reduceEqDiff, Nat.reduceBEq, ↓reduceIte, reduceCtorEq, Int.reduceEq, Int.reduceLE, Int.reduceLT, Int.reduceAdd, Int.reduceSub, Int.reduceNeg, Int.reduceToNat, Int.reduceNe, Nat.reducePow, Nat.reduceShiftRight, Nat.reduceMod, mc_level_formed, Lv.pv, k1, k2, k3, k4, k5]
            exact fin_tmp (.inr rfl) (by simp [upd, Lv.formed, k1, k2, k3, k4, k5])
end
section
attribute [local go_sem] pv_len pv_take
def Lv.right (np : Int) (l : Lv) : Bool := decide (0 ≤ np) && (decide (np ≤ 4) && (decide (l.nodes ≤ 64) && l.formed np))
set_option maxHeartbeats 4000000 in
theorem Right_p (l : Lv) (np : Int) : PPure Try.prog F.level_Right [.agg l.pv, .sc (.int .i64 np)] (.sc (.bool (l.right np))) := by
  refine pure_by is_level_Right (by simp) rfl fun hb nx => ?_
  by_cases h1 : 0 ≤ np
  · by_cases h2 : np ≤ 4
    · simp (maxSteps := 1000000) (disch := omega) only [go_sem, Nat.reduceAdd, Nat.reduceMul, Nat.reduceSub, Nat.reduceLeDiff, Nat.reduceEqDiff, Nat.reduceBEq, ↓reduceIte, reduceCtorEq, Int.reduceEq, Int.reduceLE, Int.reduceLT, Int.reduceAdd, Int.reduceSub, Int.reduceNeg, Int.reduceToNat, Int.reduceNe, Nat.reducePow, Nat.reduceShiftRight, Nat.reduceMod, mc_level_Right, h1, h2]
      refine call_pure (Nodes_p l) ?_
      by_cases h3 : l.nodes ≤ 64
      · have h4 : ((min l.nodes 65 : Nat) : Int) ≤ 64 := by omega
        simp (maxSteps := 1000000) (disch := omega) only [go_sem, Nat.reduceAdd, Nat.reduceMul, Nat.reduceSub, Nat.reduceLeDiff, Nat.reduceEqDiff, Nat.reduceBEq, ↓reduceIte, reduceCtorEq, Int.reduceEq, Int.reduceLE, Int.reduceLT, Int.reduceAdd, Int.reduceSub, Int.reduceNeg, Int.reduceToNat, Int.reduceNe, Nat.reducePow, Nat.reduceShiftRight, Nat.reduceMod, h1, h2, h4]
        refine call_pure (formed_p np l.nodes l (Nat.le_refl _)) ?_
        simp (maxSteps := 1000000) (disch := omega) only [go_sem, Nat.reduceAdd, Nat.reduceMul, Nat.reduceSub, Nat.reduceLeDiff, Nat.reduceEqDiff, Nat.reduceBEq, ↓reduceIte, reduceCtorEq, Int.reduceEq, Int.reduceLE, Int.reduceLT, Int.reduceAdd, Int.reduceSub, Int.reduceNeg, Int.reduceToNat, Int.reduceNe, Nat.reducePow, Nat.reduceShiftRight, Nat.reduceMod]
        exact fin_tmp (.inr rfl) (by simp [upd, Lv.right, h1, h2, h3])
      · have h4 : ¬ ((min l.nodes 65 : Nat) : Int) ≤ 64 := by omega
        simp (maxSteps := 1000000) (disch := omega) only [go_sem, Nat.reduceAdd, Nat.reduceMul, Nat.reduceSub, Nat.reduceLeDiff, Nat.reduceEqDiff, Nat.reduceBEq, ↓reduceIte, reduceCtorEq, Int.reduceEq, Int.reduceLE, Int.reduceLT, Int.reduceAdd, Int.reduceSub, Int.reduceNeg, Int.reduceToNat, Int.reduceNe, Nat.reducePow, Nat.reduceShiftRight, Nat.reduceMod, h1, h2, h4]
        exact fin_tmp (.inr rfl) (by simp [upd, Lv.right, h1, h2, h3])
    · simp (maxSteps := 1000000) (disch := omega) only [go_sem, Nat.reduceAdd, Nat.reduceMul, Nat.reduceSub, Nat.reduceLeDiff, Nat.reduceEqDiff, Nat.reduceBEq, ↓reduceIte, reduceCtorEq, Int.reduceEq, Int.reduceLE, Int.reduceLT, Int.reduceAdd, Int.reduceSub, Int.reduceNeg, Int.reduceToNat, Int.reduceNe, Nat.reducePow, Nat.reduceShiftRight, Nat.reduceMod, mc_level_Right, h1, h2]
      exact fin_tmp (.inr rfl) (by simp [upd, Lv.right, h2])
  · simp (maxSteps := 1000000) (disch := omega) only [go_sem, Nat.reduceAdd, Nat.reduceMul, Nat.reduceSub, Nat.reduceLeDiff, Nat.reduceEqDiff, Nat.reduceBEq, ↓reduceIte, reduceCtorEq, Int.reduceEq, Int.reduceLE, Int.reduceLT, Int.reduceAdd, Int.reduceSub, Int.reduceNeg, Int.reduceToNat, Int.reduceNe, Nat.reducePow, Nat.reduceShiftRight, Nat.reduceMod, mc_level_Right, h1]
    exact fin_tmp (.inr rfl) (by simp [upd, Lv.right, h1])
end
section
attribute [local go_sem] pv_len pv_take
def parV (vs : List Int) (n : Int) : Int := if (vs.length : Int) ≤ n then 0 else min (max (vs.getD n.toNat 0) 0) 1048576
def comb (vs : List Int) (k n : Int) (xs : List Int) : Int :=
  if k = 1 then n
  else if k = 2 then parV vs n
  else if k = 3 then 1 + xs.getD 0 0
  else if k = 5 ∧ xs.getD 1 0 = 0 then 0
  else max (xs.getD 0 0) (xs.getD 1 0)
mutual
def Lv.val (vs : List Int) : Lv → Int
  | .mk k n args => comb vs k n (valL vs args)
def valL (vs : List Int) : List Lv → List Int
  | [] => []
  | x :: r => x.val vs :: valL vs r
end
theorem formed_num {np n k : Int} {args : List Lv} (h : (Lv.mk k n args).formed np = true) :
    (k = 1 ∧ 0 ≤ n ∧ n ≤ 100 ∧ args = []) ∨ (k = 2 ∧ 0 ≤ n ∧ n < np ∧ args = []) ∨ (k = 3 ∧ n = 0 ∧ ∃ x, args = [x] ∧ x.formed np = true) ∨ ((k = 4 ∨ k = 5) ∧ n = 0 ∧ ∃ x y, args = [x, y] ∧ x.formed np = true ∧ y.formed np = true) := by
  simp only [Lv.formed] at h
  split at h
  · rename_i hk
    simp at h
    exact .inl ⟨hk, h.1, h.2.1, h.2.2⟩
  · split at h
    · rename_i hk
      simp at h
      exact .inr (.inl ⟨hk, h.1, h.2.1, h.2.2⟩)
    · split at h
      · rename_i hk
        simp only [Bool.and_eq_true, decide_eq_true_eq] at h
        obtain ⟨h0, h1, h2⟩ := h
        match args, h1 with
        | [x], _ => exact .inr (.inr (.inl ⟨hk, h0, x, rfl, by simpa [formedL] using h2⟩))
      · split at h
        · rename_i hk
          simp only [Bool.and_eq_true, decide_eq_true_eq] at h
          obtain ⟨h0, h1, h2⟩ := h
          match args, h1 with
          | [x, y], _ =>
            simp [formedL] at h2
            exact .inr (.inr (.inr ⟨hk, h0, x, y, rfl, h2.1, h2.2⟩))
        · cases h
def Lv.value (l : Lv) (vs : List Int) : Int := if l.right 4 = true then l.val vs else 0
theorem right_parts {l : Lv} {np : Int} (h : l.right np = true) : 0 ≤ np ∧ np ≤ 4 ∧ l.nodes ≤ 64 ∧ l.formed np = true := by
  simp only [Lv.right, Bool.and_eq_true, decide_eq_true_eq] at h
  exact ⟨h.1, h.2.1, h.2.2.1, h.2.2.2⟩
end
section
set_option maxRecDepth 20000
attribute [local go_sem] Nat.add_assoc
def plainB (r : Int) (first : Bool) : Bool :=
  if r = 95 ∨ (97 ≤ r ∧ r ≤ 122) then true else if r = 46 ∨ (48 ≤ r ∧ r ≤ 57) then !first else false
def scan : Bool → List UInt8 → Option Bool
  | st, [] => some st
  | st, c :: r => if plainB c.toNat st = true then scan (decide ((c.toNat : Int) = 46)) r else none
def nameB (s : ByteArray) : Bool := decide (s.size ≤ 40) && (scan true s.data.toList == some false)
theorem name_plain_p (r : Int) (first : Bool) : PPure Try.prog F.name_plain [.sc (.int .i32 r), .sc (.bool first)] (.sc (.bool (plainB r first))) := by
  refine pure_by is_name_plain (by simp) rfl fun hb nx => ?_
  repeat' (first | ((with_reducible first | refine cond_pos (by omega) ?_ | refine cond_neg (by omega) ?_ | refine guard_pos (by omega) ?_ | refine guard_neg (by omega) ?_ | refine cond_ifn ?_ ?_ | refine cond_waysn ?_ ?_ | refine guard_ifn ?_ ?_ | refine guard_waysn ?_ ?_ | refine cond_if ?_ ?_ | refine cond_ways ?_ ?_ | refine guard_if ?_ ?_ | refine guard_ways ?_ ?_) <;> intro _) | simp (maxSteps := 1000000) (disch := omega) only [go_sem, Nat.reduceAdd, Nat.reduceMul, Nat.reduceSub, Nat.reduceLeDiff, Nat.reduceEqDiff, Nat.reduceBEq, ↓reduceIte, reduceCtorEq, Int.reduceEq, Int.reduceLE, Int.reduceLT, Int.reduceAdd, Int.reduceSub, Int.reduceNeg, Int.reduceToNat, Int.reduceNe, Nat.reducePow, Nat.reduceShiftRight, Nat.reduceMod, mc_name_plain, *])
  all_goals (refine fin_tmp (.inr rfl) ?_; simp [upd, plainB, *])
theorem decode_high (s : ByteArray) (p : Nat) (h : p < s.size) (hc : 128 ≤ (s[p]'h).toNat) : 128 ≤ (Utf8.decode s p).1 := by
  have e : s.get! (p + 0) = s[p]'h := by
    show s.get! p = _
    simp [ByteArray.get!, getElem!_pos, h]
    rfl
  simp only [Utf8.decode, e, Utf8.runeError]
  repeat' split
  all_goals simp_all
  all_goals omega
theorem Right_1_m (r : Int) (st : Bool) (id : Nat) (w : Bool) (H : Nat → Option PObj) (nx : Nat) (hH : H id = some ⟨[.sc (.bool st)], w⟩) :
    PMut Try.prog F.name_Right_1 [.sc (.int .i32 r), .optr id 0] H nx (fun H' nx' r' => H' = upd H id (some ⟨[.sc (.bool (decide (r = 46)))], w⟩) ∧ r' = .sc (.bool (!plainB r st))) := by
  refine mut_by is_name_Right_1 (by simp) fun hb => ?_
  repeat' (first | ((with_reducible first | refine cond_pos (by omega) ?_ | refine cond_neg (by omega) ?_ | refine guard_pos (by omega) ?_ | refine guard_neg (by omega) ?_ | refine cond_ifn ?_ ?_ | refine cond_waysn ?_ ?_ | refine guard_ifn ?_ ?_ | refine guard_waysn ?_ ?_ | refine cond_if ?_ ?_ | refine cond_ways ?_ ?_ | refine guard_if ?_ ?_ | refine guard_ways ?_ ?_) <;> intro _) | (((with_reducible refine call_id ?_); (first | (refine call_pure (name_plain_p r st) ?_)))) | simp (maxSteps := 1000000) (disch := omega) only [go_sem, Nat.reduceAdd, Nat.reduceMul, Nat.reduceSub, Nat.reduceLeDiff, Nat.reduceEqDiff, Nat.reduceBEq, ↓reduceIte, reduceCtorEq, Int.reduceEq, Int.reduceLE, Int.reduceLT, Int.reduceAdd, Int.reduceSub, Int.reduceNeg, Int.reduceToNat, Int.reduceNe, Nat.reducePow, Nat.reduceShiftRight, Nat.reduceMod, mc_name_Right_1, *])
  refine fin_mut (.sc (.bool (!plainB r st))) (.inr rfl) ?_ ?_
  · simp (disch := omega) only [go_sem, Nat.reduceMul, Nat.reduceSub, Nat.reduceShiftRight, Nat.reduceMod, Nat.reduceEqDiff, Nat.reduceAdd, ↓reduceIte, Nat.reduceLeDiff, *]
  · exact ⟨rfl, rfl⟩
theorem scan_drop (st : Bool) (s : ByteArray) (p : Nat) (h : p < s.size) : scan st (s.data.toList.drop p) = if plainB (s[p]'h).toNat st = true then scan (decide (((s[p]'h).toNat : Int) = 46)) (s.data.toList.drop (p + 1)) else none := by
  have hl : p < s.data.toList.length := by simpa using h
  rw [List.drop_eq_getElem_cons hl]
  rfl
set_option maxHeartbeats 4000000 in
theorem indexFunc_m (s : ByteArray) (id : Nat) (w : Bool) (H : Nat → Option PObj) (nx : Nat) (hid : id < nx) (hH : H id = some ⟨[.sc (.bool true)], w⟩) :
    PMut Try.prog F.strings_indexFunc [.sc (.string s), .fn F.name_Right_1 [.optr id 0], .sc (.bool true)] H nx (fun H' nx' r' => ∃ st k, H' id = some ⟨[.sc (.bool st)], w⟩ ∧ r' = .sc (.int .i64 k) ∧ (scan true s.data.toList = some st ∧ k = -1 ∨ scan true s.data.toList = none ∧ 0 ≤ k)) := by
  refine mut_by is_strings_indexFunc (by simp) fun hb => ?_
  repeat' (first | ((with_reducible first | refine cond_pos (by omega) ?_ | refine cond_neg (by omega) ?_ | refine guard_pos (by omega) ?_ | refine guard_neg (by omega) ?_ | refine cond_ifn ?_ ?_ | refine cond_waysn ?_ ?_ | refine guard_ifn ?_ ?_ | refine guard_waysn ?_ ?_ | refine cond_if ?_ ?_ | refine cond_ways ?_ ?_ | refine guard_if ?_ ?_ | refine guard_ways ?_ ?_) <;> intro _) | simp (maxSteps := 1000000) (disch := omega) only [go_sem, Nat.reduceAdd, Nat.reduceMul, Nat.reduceSub, Nat.reduceLeDiff, Nat.reduceEqDiff, Nat.reduceBEq, ↓reduceIte, reduceCtorEq, Int.reduceEq, Int.reduceLE, Int.reduceLT, Int.reduceAdd, Int.reduceSub, Int.reduceNeg, Int.reduceToNat, Int.reduceNe, Nat.reducePow, Nat.reduceShiftRight, Nat.reduceMod, mc_strings_indexFunc, *])
  refine c_loopW 2095552 (by kernel_rfl) (fun j f H m => ∃ p st, j = s.size - p ∧ p ≤ s.size ∧ scan true s.data.toList = scan st (s.data.toList.drop p) ∧ nx < m ∧ H (nx + 2) = some (.iter s p) ∧ H id = some ⟨[.sc (.bool st)], w⟩) _ ⟨0, true, rfl, (by first | assumption | omega | rfl | (simp (disch := omega) only [go_sem, Nat.reduceMul, Nat.reduceSub, Nat.reduceShiftRight, Nat.reduceMod, Nat.reduceEqDiff, Nat.reduceAdd, ↓reduceIte, Nat.reduceLeDiff, *] <;> omega)), rfl, (by first | assumption | omega | rfl | (simp (disch := omega) only [go_sem, Nat.reduceMul, Nat.reduceSub, Nat.reduceShiftRight, Nat.reduceMod, Nat.reduceEqDiff, Nat.reduceAdd, ↓reduceIte, Nat.reduceLeDiff, *] <;> omega)), (by first | assumption | omega | rfl | (simp (disch := omega) only [go_sem, Nat.reduceMul, Nat.reduceSub, Nat.reduceShiftRight, Nat.reduceMod, Nat.reduceEqDiff, Nat.reduceAdd, ↓reduceIte, Nat.reduceLeDiff, *] <;> omega)), (by first | assumption | omega | rfl | (simp (disch := omega) only [go_sem, Nat.reduceMul, Nat.reduceSub, Nat.reduceShiftRight, Nat.reduceMod, Nat.reduceEqDiff, Nat.reduceAdd, ↓reduceIte, Nat.reduceLeDiff, *] <;> omega))⟩ ?_
  rintro _ f H1 m ⟨p, st, rfl, hp, hs, hm, hi, hc⟩
  replace hs := Kept.mk hs
  by_cases hlt : p < s.size
  · have hd := Kept.mk (scan_drop st s p hlt)
    repeat' (first | ((with_reducible first | refine cond_pos (by omega) ?_ | refine cond_neg (by omega) ?_ | refine guard_pos (by omega) ?_ | refine guard_neg (by omega) ?_ | refine cond_ifn ?_ ?_ | refine cond_waysn ?_ ?_ | refine guard_ifn ?_ ?_ | refine guard_waysn ?_ ?_ | refine cond_if ?_ ?_ | refine cond_ways ?_ ?_ | refine guard_if ?_ ?_ | refine guard_ways ?_ ?_) <;> intro _) | simp (maxSteps := 1000000) (disch := omega) only [go_sem, Nat.reduceAdd, Nat.reduceMul, Nat.reduceSub, Nat.reduceLeDiff, Nat.reduceEqDiff, Nat.reduceBEq, ↓reduceIte, reduceCtorEq, Int.reduceEq, Int.reduceLE, Int.reduceLT, Int.reduceAdd, Int.reduceSub, Int.reduceNeg, Int.reduceToNat, Int.reduceNe, Nat.reducePow, Nat.reduceShiftRight, Nat.reduceMod, *])
    refine call_mut (Right_1_m _ st id w _ _ (by first | assumption | omega | rfl | (simp (disch := omega) only [go_sem, Nat.reduceMul, Nat.reduceSub, Nat.reduceShiftRight, Nat.reduceMod, Nat.reduceEqDiff, Nat.reduceAdd, ↓reduceIte, Nat.reduceLeDiff, *] <;> omega))) ?_
    rintro H' nx' r ⟨rfl, rfl⟩ hnx
    replace hnx : m + 11 ≤ nx' := by simpa using hnx
    by_cases hasc : (s[p]'hlt).toNat < 128
    · have ha := decode_ascii s p hlt hasc
      simp only [ha]
      repeat' (first | ((with_reducible first | refine cond_pos (by omega) ?_ | refine cond_neg (by omega) ?_ | refine guard_pos (by omega) ?_ | refine guard_neg (by omega) ?_ | refine cond_ifn ?_ ?_ | refine cond_waysn ?_ ?_ | refine guard_ifn ?_ ?_ | refine guard_waysn ?_ ?_ | refine cond_if ?_ ?_ | refine cond_ways ?_ ?_ | refine guard_if ?_ ?_ | refine guard_ways ?_ ?_) <;> intro _) | simp (maxSteps := 1000000) (disch := omega) only [go_sem, Nat.reduceAdd, Nat.reduceMul, Nat.reduceSub, Nat.reduceLeDiff, Nat.reduceEqDiff, Nat.reduceBEq, ↓reduceIte, reduceCtorEq, Int.reduceEq, Int.reduceLE, Int.reduceLT, Int.reduceAdd, Int.reduceSub, Int.reduceNeg, Int.reduceToNat, Int.reduceNe, Nat.reducePow, Nat.reduceShiftRight, Nat.reduceMod, *])
      · rename_i hpl
        refine fin_mut (.sc (.int .i64 p)) (.inr rfl) (by simp (disch := omega) only [go_sem, Nat.reduceMul, Nat.reduceSub, Nat.reduceShiftRight, Nat.reduceMod, Nat.reduceEqDiff, Nat.reduceAdd, ↓reduceIte, Nat.reduceLeDiff, *]) ⟨decide (((s[p]'hlt).toNat : Int) = 46), p, (by first | assumption | omega | rfl | (simp (disch := omega) only [go_sem, Nat.reduceMul, Nat.reduceSub, Nat.reduceShiftRight, Nat.reduceMod, Nat.reduceEqDiff, Nat.reduceAdd, ↓reduceIte, Nat.reduceLeDiff, *] <;> omega)), rfl, .inr ⟨?_, by omega⟩⟩
        rw [hs.out, hd.out, if_neg (by simpa using hpl)]
      · rename_i hpl
        refine Nx.mk (s.size - (p + 1)) (by first | assumption | omega | rfl | (simp (disch := omega) only [go_sem, Nat.reduceMul, Nat.reduceSub, Nat.reduceShiftRight, Nat.reduceMod, Nat.reduceEqDiff, Nat.reduceAdd, ↓reduceIte, Nat.reduceLeDiff, *] <;> omega)) ⟨p + 1, decide (((s[p]'hlt).toNat : Int) = 46), rfl, (by first | assumption | omega | rfl | (simp (disch := omega) only [go_sem, Nat.reduceMul, Nat.reduceSub, Nat.reduceShiftRight, Nat.reduceMod, Nat.reduceEqDiff, Nat.reduceAdd, ↓reduceIte, Nat.reduceLeDiff, *] <;> omega)), ?_, (by first | assumption | omega | rfl | (simp (disch := omega) only [go_sem, Nat.reduceMul, Nat.reduceSub, Nat.reduceShiftRight, Nat.reduceMod, Nat.reduceEqDiff, Nat.reduceAdd, ↓reduceIte, Nat.reduceLeDiff, *] <;> omega)), (by first | assumption | omega | rfl | (simp (disch := omega) only [go_sem, Nat.reduceMul, Nat.reduceSub, Nat.reduceShiftRight, Nat.reduceMod, Nat.reduceEqDiff, Nat.reduceAdd, ↓reduceIte, Nat.reduceLeDiff, *] <;> omega)), (by first | assumption | omega | rfl | (simp (disch := omega) only [go_sem, Nat.reduceMul, Nat.reduceSub, Nat.reduceShiftRight, Nat.reduceMod, Nat.reduceEqDiff, Nat.reduceAdd, ↓reduceIte, Nat.reduceLeDiff, *] <;> omega))⟩
        rw [hs.out, hd.out, if_pos (by simpa using hpl)]
    · have hh := decode_high s p hlt (by omega)
      generalize Utf8.decode s p = q at hh
      have hpl : ∀ (c : Nat), 128 ≤ c → plainB c st = false := fun c hc => by
        unfold plainB
        rw [if_neg (by omega), if_neg (by omega)]
      have h1 := hpl q.1 hh
      repeat' (first | ((with_reducible first | refine cond_pos (by omega) ?_ | refine cond_neg (by omega) ?_ | refine guard_pos (by omega) ?_ | refine guard_neg (by omega) ?_ | refine cond_ifn ?_ ?_ | refine cond_waysn ?_ ?_ | refine guard_ifn ?_ ?_ | refine guard_waysn ?_ ?_ | refine cond_if ?_ ?_ | refine cond_ways ?_ ?_ | refine guard_if ?_ ?_ | refine guard_ways ?_ ?_) <;> intro _) | simp (maxSteps := 1000000) (disch := omega) only [go_sem, Nat.reduceAdd, Nat.reduceMul, Nat.reduceSub, Nat.reduceLeDiff, Nat.reduceEqDiff, Nat.reduceBEq, ↓reduceIte, reduceCtorEq, Int.reduceEq, Int.reduceLE, Int.reduceLT, Int.reduceAdd, Int.reduceSub, Int.reduceNeg, Int.reduceToNat, Int.reduceNe, Nat.reducePow, Nat.reduceShiftRight, Nat.reduceMod, *])
      refine fin_mut (.sc (.int .i64 p)) (.inr rfl) (by simp (disch := omega) only [go_sem, Nat.reduceMul, Nat.reduceSub, Nat.reduceShiftRight, Nat.reduceMod, Nat.reduceEqDiff, Nat.reduceAdd, ↓reduceIte, Nat.reduceLeDiff, *]) ⟨decide ((q.1 : Int) = 46), p, (by first | assumption | omega | rfl | (simp (disch := omega) only [go_sem, Nat.reduceMul, Nat.reduceSub, Nat.reduceShiftRight, Nat.reduceMod, Nat.reduceEqDiff, Nat.reduceAdd, ↓reduceIte, Nat.reduceLeDiff, *] <;> omega)), rfl, .inr ⟨?_, by omega⟩⟩
      rw [hs.out, hd.out, if_neg (by rw [hpl _ (by omega)]; simp)]
  · obtain rfl : p = s.size := by omega
    repeat' (first | ((with_reducible first | refine cond_pos (by omega) ?_ | refine cond_neg (by omega) ?_ | refine guard_pos (by omega) ?_ | refine guard_neg (by omega) ?_ | refine cond_ifn ?_ ?_ | refine cond_waysn ?_ ?_ | refine guard_ifn ?_ ?_ | refine guard_waysn ?_ ?_ | refine cond_if ?_ ?_ | refine cond_ways ?_ ?_ | refine guard_if ?_ ?_ | refine guard_ways ?_ ?_) <;> intro _) | simp (maxSteps := 1000000) (disch := omega) only [go_sem, Nat.reduceAdd, Nat.reduceMul, Nat.reduceSub, Nat.reduceLeDiff, Nat.reduceEqDiff, Nat.reduceBEq, ↓reduceIte, reduceCtorEq, Int.reduceEq, Int.reduceLE, Int.reduceLT, Int.reduceAdd, Int.reduceSub, Int.reduceNeg, Int.reduceToNat, Int.reduceNe, Nat.reducePow, Nat.reduceShiftRight, Nat.reduceMod, *])
    refine fin_mut (.sc (.int .i64 (-1))) (.inr rfl) (by simp (disch := omega) only [go_sem, Nat.reduceMul, Nat.reduceSub, Nat.reduceShiftRight, Nat.reduceMod, Nat.reduceEqDiff, Nat.reduceAdd, ↓reduceIte, Nat.reduceLeDiff, *]) ⟨st, -1, hc, rfl, .inl ⟨?_, rfl⟩⟩
    rw [hs.out, List.drop_eq_nil_of_le (by show s.data.toList.length ≤ s.data.size; simp)]
    rfl
theorem IndexFunc_m (s : ByteArray) (id : Nat) (w : Bool) (H : Nat → Option PObj) (nx : Nat) (hid : id < nx) (hH : H id = some ⟨[.sc (.bool true)], w⟩) :
    PMut Try.prog F.strings_IndexFunc [.sc (.string s), .fn F.name_Right_1 [.optr id 0]] H nx (fun H' nx' r' => ∃ st k, H' id = some ⟨[.sc (.bool st)], w⟩ ∧ r' = .sc (.int .i64 k) ∧ (scan true s.data.toList = some st ∧ k = -1 ∨ scan true s.data.toList = none ∧ 0 ≤ k)) := by
  refine mut_by is_strings_IndexFunc (by simp) fun hb => ?_
  repeat' (first | ((with_reducible first | refine cond_pos (by omega) ?_ | refine cond_neg (by omega) ?_ | refine guard_pos (by omega) ?_ | refine guard_neg (by omega) ?_ | refine cond_ifn ?_ ?_ | refine cond_waysn ?_ ?_ | refine guard_ifn ?_ ?_ | refine guard_waysn ?_ ?_ | refine cond_if ?_ ?_ | refine cond_ways ?_ ?_ | refine guard_if ?_ ?_ | refine guard_ways ?_ ?_) <;> intro _) | simp (maxSteps := 1000000) (disch := omega) only [go_sem, Nat.reduceAdd, Nat.reduceMul, Nat.reduceSub, Nat.reduceLeDiff, Nat.reduceEqDiff, Nat.reduceBEq, ↓reduceIte, reduceCtorEq, Int.reduceEq, Int.reduceLE, Int.reduceLT, Int.reduceAdd, Int.reduceSub, Int.reduceNeg, Int.reduceToNat, Int.reduceNe, Nat.reducePow, Nat.reduceShiftRight, Nat.reduceMod, mc_strings_IndexFunc, *])
  refine call_mut (indexFunc_m s id w _ _ (by first | assumption | omega | rfl | (simp (disch := omega) only [go_sem, Nat.reduceMul, Nat.reduceSub, Nat.reduceShiftRight, Nat.reduceMod, Nat.reduceEqDiff, Nat.reduceAdd, ↓reduceIte, Nat.reduceLeDiff, *] <;> omega)) hH) ?_
  rintro H' nx' r ⟨st, k, h1, rfl, h2⟩ hnx
  replace h2 := Kept.mk h2
  repeat' (first | ((with_reducible first | refine cond_pos (by omega) ?_ | refine cond_neg (by omega) ?_ | refine guard_pos (by omega) ?_ | refine guard_neg (by omega) ?_ | refine cond_ifn ?_ ?_ | refine cond_waysn ?_ ?_ | refine guard_ifn ?_ ?_ | refine guard_waysn ?_ ?_ | refine cond_if ?_ ?_ | refine cond_ways ?_ ?_ | refine guard_if ?_ ?_ | refine guard_ways ?_ ?_) <;> intro _) | simp (maxSteps := 1000000) (disch := omega) only [go_sem, Nat.reduceAdd, Nat.reduceMul, Nat.reduceSub, Nat.reduceLeDiff, Nat.reduceEqDiff, Nat.reduceBEq, ↓reduceIte, reduceCtorEq, Int.reduceEq, Int.reduceLE, Int.reduceLT, Int.reduceAdd, Int.reduceSub, Int.reduceNeg, Int.reduceToNat, Int.reduceNe, Nat.reducePow, Nat.reduceShiftRight, Nat.reduceMod, *])
  exact fin_mut (.sc (.int .i64 k)) (.inr rfl) (by simp (disch := omega) only [go_sem, Nat.reduceMul, Nat.reduceSub, Nat.reduceShiftRight, Nat.reduceMod, Nat.reduceEqDiff, Nat.reduceAdd, ↓reduceIte, Nat.reduceLeDiff, *]) ⟨st, k, h1, rfl, h2.out⟩
set_option maxHeartbeats 4000000 in
theorem name_Right_p (s : ByteArray) : PPure Try.prog F.name_Right [.sc (.string s)] (.sc (.bool (nameB s))) := by
  refine pure_by is_name_Right (by simp) rfl fun hb nx => ?_
  repeat' (first | ((with_reducible first | refine cond_pos (by omega) ?_ | refine cond_neg (by omega) ?_ | refine guard_pos (by omega) ?_ | refine guard_neg (by omega) ?_ | refine cond_ifn ?_ ?_ | refine cond_waysn ?_ ?_ | refine guard_ifn ?_ ?_ | refine guard_waysn ?_ ?_ | refine cond_if ?_ ?_ | refine cond_ways ?_ ?_ | refine guard_if ?_ ?_ | refine guard_ways ?_ ?_) <;> intro _) | simp (maxSteps := 1000000) (disch := omega) only [go_sem, Nat.reduceAdd, Nat.reduceMul, Nat.reduceSub, Nat.reduceLeDiff, Nat.reduceEqDiff, Nat.reduceBEq, ↓reduceIte, reduceCtorEq, Int.reduceEq, Int.reduceLE, Int.reduceLT, Int.reduceAdd, Int.reduceSub, Int.reduceNeg, Int.reduceToNat, Int.reduceNe, Nat.reducePow, Nat.reduceShiftRight, Nat.reduceMod, mc_name_Right, *])
  · (refine fin_tmp (.inr rfl) ?_; (first | rfl | (simp (disch := omega) only [go_sem, Nat.reduceMul, Nat.reduceSub, Nat.reduceShiftRight, Nat.reduceMod, Nat.reduceEqDiff, Nat.reduceAdd, ↓reduceIte, Nat.reduceLeDiff, nameB, *]; done) | (simp [nameB, upd, *]; done) | (simp [nameB, upd, *]; omega)))
  · refine call_mut (IndexFunc_m s (nx + 4) true _ _ (by first | assumption | omega | rfl | (simp (disch := omega) only [go_sem, Nat.reduceMul, Nat.reduceSub, Nat.reduceShiftRight, Nat.reduceMod, Nat.reduceEqDiff, Nat.reduceAdd, ↓reduceIte, Nat.reduceLeDiff, *] <;> omega)) (by first | assumption | omega | rfl | (simp (disch := omega) only [go_sem, Nat.reduceMul, Nat.reduceSub, Nat.reduceShiftRight, Nat.reduceMod, Nat.reduceEqDiff, Nat.reduceAdd, ↓reduceIte, Nat.reduceLeDiff, *] <;> omega))) ?_
    rintro H' nx' r ⟨st, k, h1, rfl, h2⟩ hnx
    rcases h2 with ⟨h2, rfl⟩ | ⟨h2, h3⟩
    · cases st
      · repeat' (first | ((with_reducible first | refine cond_pos (by omega) ?_ | refine cond_neg (by omega) ?_ | refine guard_pos (by omega) ?_ | refine guard_neg (by omega) ?_ | refine cond_ifn ?_ ?_ | refine cond_waysn ?_ ?_ | refine guard_ifn ?_ ?_ | refine guard_waysn ?_ ?_ | refine cond_if ?_ ?_ | refine cond_ways ?_ ?_ | refine guard_if ?_ ?_ | refine guard_ways ?_ ?_) <;> intro _) | simp (maxSteps := 1000000) (disch := omega) only [go_sem, Nat.reduceAdd, Nat.reduceMul, Nat.reduceSub, Nat.reduceLeDiff, Nat.reduceEqDiff, Nat.reduceBEq, ↓reduceIte, reduceCtorEq, Int.reduceEq, Int.reduceLE, Int.reduceLT, Int.reduceAdd, Int.reduceSub, Int.reduceNeg, Int.reduceToNat, Int.reduceNe, Nat.reducePow, Nat.reduceShiftRight, Nat.reduceMod, *])
        (refine fin_tmp (.inr rfl) ?_; (first | rfl | (simp (disch := omega) only [go_sem, Nat.reduceMul, Nat.reduceSub, Nat.reduceShiftRight, Nat.reduceMod, Nat.reduceEqDiff, Nat.reduceAdd, ↓reduceIte, Nat.reduceLeDiff, nameB, *]; done) | (simp [nameB, upd, *]; done) | (simp [nameB, upd, *]; omega)))
      · repeat' (first | ((with_reducible first | refine cond_pos (by omega) ?_ | refine cond_neg (by omega) ?_ | refine guard_pos (by omega) ?_ | refine guard_neg (by omega) ?_ | refine cond_ifn ?_ ?_ | refine cond_waysn ?_ ?_ | refine guard_ifn ?_ ?_ | refine guard_waysn ?_ ?_ | refine cond_if ?_ ?_ | refine cond_ways ?_ ?_ | refine guard_if ?_ ?_ | refine guard_ways ?_ ?_) <;> intro _) | simp (maxSteps := 1000000) (disch := omega) only [go_sem, Nat.reduceAdd, Nat.reduceMul, Nat.reduceSub, Nat.reduceLeDiff, Nat.reduceEqDiff, Nat.reduceBEq, ↓reduceIte, reduceCtorEq, Int.reduceEq, Int.reduceLE, Int.reduceLT, Int.reduceAdd, Int.reduceSub, Int.reduceNeg, Int.reduceToNat, Int.reduceNe, Nat.reducePow, Nat.reduceShiftRight, Nat.reduceMod, *])
        (refine fin_tmp (.inr rfl) ?_; (first | rfl | (simp (disch := omega) only [go_sem, Nat.reduceMul, Nat.reduceSub, Nat.reduceShiftRight, Nat.reduceMod, Nat.reduceEqDiff, Nat.reduceAdd, ↓reduceIte, Nat.reduceLeDiff, nameB, *]; done) | (simp [nameB, upd, *]; done) | (simp [nameB, upd, *]; omega)))
    · repeat' (first | ((with_reducible first | refine cond_pos (by omega) ?_ | refine cond_neg (by omega) ?_ | refine guard_pos (by omega) ?_ | refine guard_neg (by omega) ?_ | refine cond_ifn ?_ ?_ | refine cond_waysn ?_ ?_ | refine guard_ifn ?_ ?_ | refine guard_waysn ?_ ?_ | refine cond_if ?_ ?_ | refine cond_ways ?_ ?_ | refine guard_if ?_ ?_ | refine guard_ways ?_ ?_) <;> intro _) | simp (maxSteps := 1000000) (disch := omega) only [go_sem, Nat.reduceAdd, Nat.reduceMul, Nat.reduceSub, Nat.reduceLeDiff, Nat.reduceEqDiff, Nat.reduceBEq, ↓reduceIte, reduceCtorEq, Int.reduceEq, Int.reduceLE, Int.reduceLT, Int.reduceAdd, Int.reduceSub, Int.reduceNeg, Int.reduceToNat, Int.reduceNe, Nat.reducePow, Nat.reduceShiftRight, Nat.reduceMod, *])
      (refine fin_tmp (.inr rfl) ?_; (first | rfl | (simp (disch := omega) only [go_sem, Nat.reduceMul, Nat.reduceSub, Nat.reduceShiftRight, Nat.reduceMod, Nat.reduceEqDiff, Nat.reduceAdd, ↓reduceIte, Nat.reduceLeDiff, nameB, *]; done) | (simp [nameB, upd, *]; done) | (simp [nameB, upd, *]; omega)))
end
section
set_option maxRecDepth 20000
attribute [local go_sem] pv_len pv_take Nat.add_assoc
inductive Tm where
  | mk (kind n : Int) (name : ByteArray) (levels : List Lv) (args : List Tm)
mutual
def Tm.size : Tm → Nat
  | .mk _ _ _ _ args => 1 + sizeL args
def sizeL : List Tm → Nat
  | [] => 0
  | x :: r => x.size + sizeL r
end
def Tm.pv : Tm → List PV
  | .mk k n s ls args => [.sc (.int .i64 k), .sc (.int .i64 n), .sc (.string s), .sl 3 (ls.map Lv.pv), .sl 5 (args.map Tm.pv)]
theorem tm_len (t : Tm) : t.pv.length = 5 := by cases t; simp [Tm.pv]
attribute [local go_sem] tm_len
theorem tm_take (t : Tm) : t.pv.take 5 = t.pv := List.take_of_length_le (by rw [tm_len]; omega)
attribute [local go_sem] tm_take
theorem size_pos (t : Tm) : 0 < t.size := by cases t; simp only [Tm.size]; omega
theorem sizeL_mem : ∀ (ts : List Tm) (k : Nat) (h : k < ts.length), ts[k].size ≤ sizeL ts
  | x :: r, 0, h => by simp [sizeL]
  | x :: r, k + 1, h => by
    have := sizeL_mem r k (by simpa using h)
    simp only [List.getElem_cons_succ, sizeL]
    omega
theorem len_sizeL : ∀ ts : List Tm, ts.length ≤ sizeL ts
  | [] => Nat.le_refl _
  | x :: r => by have := len_sizeL r; have := size_pos x; simp only [List.length_cons, sizeL]; omega
def deepB (kind : Int) (len i : Nat) : Int := if 5 ≤ kind ∧ i + 1 = len then 1 else 0
theorem deep_bd (kind : Int) (len i : Nat) : 0 ≤ deepB kind len i ∧ deepB kind len i ≤ 1 := by unfold deepB; split <;> omega
def noS (s : ByteArray) : Bool := s.toList == (⟨#[]⟩ : ByteArray).toList
theorem fold_noS {s : ByteArray} : (s.toList == (⟨#[]⟩ : ByteArray).toList) = noS s := nr rfl
def hasB (n : Int) (s : ByteArray) (ls : List Lv) (args : List Tm) (a b c : Int) : Bool := decide (n = a) && (noS s && (decide ((ls.length : Int) = b) && decide ((args.length : Int) = c)))
def headR (np : Int) : List Lv → Bool
  | l :: _ => l.right np
  | [] => false
def constB (n : Int) (s : ByteArray) (ls : List Lv) (args : List Tm) (np : Int) : Bool := decide (n = 0) && (decide (args.length = 0) && (decide (ls.length ≤ 4) && (nameB s && ls.all (Lv.right np))))
mutual
def Tm.formed (np : Int) : Int → Tm → Bool
  | k, .mk kind n s ls args =>
    if kind = 1 then decide (0 ≤ n) && (decide (n < k) && hasB n s ls args n 0 0)
    else if kind = 2 then hasB n s ls args 0 1 0 && headR np ls
    else if kind = 3 then constB n s ls args np
    else if kind = 4 ∨ kind = 5 ∨ kind = 6 then hasB n s ls args 0 0 2 && formedA np k kind args.length 0 args
    else if kind = 7 then hasB n s ls args 0 0 3 && formedA np k kind args.length 0 args
    else false
def formedA (np : Int) : Int → Int → Nat → Nat → List Tm → Bool
  | _, _, _, _, [] => true
  | k, kind, len, i, x :: r => x.formed np (k + deepB kind len i) && formedA np k kind len (i + 1) r
end
theorem deeper_p (t : Tm) (i : Nat) (kind n : Int) (s : ByteArray) (ls : List Lv) (args : List Tm) (e : t = .mk kind n s ls args) : PPure Try.prog F.term_deeper [.ptr t.pv, .sc (.int .i64 i)] (.sc (.int .i64 (deepB kind args.length i))) := by
  subst e
  refine pure_by is_term_deeper (by simp) rfl fun hb nx => ?_
  have hb0 : args.length ≤ 9223372036854775807 := by simp [Tm.pv, bndL, PV.bnd] at hb; exact hb.2.1
  repeat' (first | ((with_reducible first | refine cond_pos (by omega) ?_ | refine cond_neg (by omega) ?_ | refine guard_pos (by omega) ?_ | refine guard_neg (by omega) ?_ | refine cond_ifn ?_ ?_ | refine cond_waysn ?_ ?_ | refine guard_ifn ?_ ?_ | refine guard_waysn ?_ ?_ | refine cond_if ?_ ?_ | refine cond_ways ?_ ?_ | refine guard_if ?_ ?_ | refine guard_ways ?_ ?_) <;> intro _) | simp (maxSteps := 1000000) (disch := omega) only [go_sem, Nat.reduceAdd, Nat.reduceMul, Nat.reduceSub, Nat.reduceLeDiff, Nat.reduceEqDiff, Nat.reduceBEq, ↓reduceIte, reduceCtorEq, Int.reduceEq, Int.reduceLE, Int.reduceLT, Int.reduceAdd, Int.reduceSub, Int.reduceNeg, Int.reduceToNat, Int.reduceNe, Nat.reducePow, Nat.reduceShiftRight, Nat.reduceMod, mc_term_deeper, Tm.pv, *])
  all_goals (refine fin_tmp (.inr rfl) ?_; simp [upd, deepB, *]; try omega)
theorem has_p (kind n : Int) (s : ByteArray) (ls : List Lv) (args : List Tm) (a b c : Int) :
    PPure Try.prog F.term_has [.ptr (Tm.mk kind n s ls args).pv, .sc (.int .i64 a), .sc (.int .i64 b), .sc (.int .i64 c)] (.sc (.bool (hasB n s ls args a b c))) := by
  unfold hasB
  refine pure_by is_term_has (by simp) rfl fun hb nx => ?_
  repeat' (first | ((with_reducible first | refine cond_pos (by omega) ?_ | refine cond_neg (by omega) ?_ | refine guard_pos (by omega) ?_ | refine guard_neg (by omega) ?_ | refine cond_ifn ?_ ?_ | refine cond_waysn ?_ ?_ | refine guard_ifn ?_ ?_ | refine guard_waysn ?_ ?_ | refine cond_if ?_ ?_ | refine cond_ways ?_ ?_ | refine guard_if ?_ ?_ | refine guard_ways ?_ ?_) <;> intro _) | simp (maxSteps := 1000000) (disch := omega) only [go_sem, Nat.reduceAdd, Nat.reduceMul, Nat.reduceSub, Nat.reduceLeDiff, Nat.reduceEqDiff, Nat.reduceBEq, ↓reduceIte, reduceCtorEq, Int.reduceEq, Int.reduceLE, Int.reduceLT, Int.reduceAdd, Int.reduceSub, Int.reduceNeg, Int.reduceToNat, Int.reduceNe, Nat.reducePow, Nat.reduceShiftRight, Nat.reduceMod, mc_term_has, Tm.pv, strBin, fold_noS, *])
  all_goals (refine fin_tmp (.inr rfl) ?_; simp [upd, *])
theorem all_right_take (np : Int) (ls : List Lv) (k : Nat) (h : k < ls.length) : (ls.take (k + 1)).all (Lv.right np) = ((ls.take k).all (Lv.right np) && ls[k].right np) := by
  rw [List.take_succ_eq_append_getElem h, List.all_append]; simp
theorem all_right_false (np : Int) (ls : List Lv) (k : Nat) (h : k < ls.length) (hp : ls[k].right np = false) : ls.all (Lv.right np) = false := by
  rw [List.all_eq_false]; exact ⟨_, List.getElem_mem h, by simp [hp]⟩
set_option maxHeartbeats 4000000 in
theorem constant_p (kind n : Int) (s : ByteArray) (ls : List Lv) (args : List Tm) (np : Int) :
    PPure Try.prog F.term_constant [.ptr (Tm.mk kind n s ls args).pv, .sc (.int .i64 np)] (.sc (.bool (constB n s ls args np))) := by
  unfold constB
  refine pure_by is_term_constant (by simp) rfl fun hb nx => ?_
  have hb0 : args.length ≤ 9223372036854775807 := by simp [Tm.pv, bndL, PV.bnd] at hb; exact hb.2.1
  repeat' (first | ((with_reducible first | refine cond_pos (by omega) ?_ | refine cond_neg (by omega) ?_ | refine guard_pos (by omega) ?_ | refine guard_neg (by omega) ?_ | refine cond_ifn ?_ ?_ | refine cond_waysn ?_ ?_ | refine guard_ifn ?_ ?_ | refine guard_waysn ?_ ?_ | refine cond_if ?_ ?_ | refine cond_ways ?_ ?_ | refine guard_if ?_ ?_ | refine guard_ways ?_ ?_) <;> intro _) | (((with_reducible refine call_id ?_); (first | (refine call_pure (name_Right_p s) ?_)))) | simp (maxSteps := 1000000) (disch := omega) only [go_sem, Nat.reduceAdd, Nat.reduceMul, Nat.reduceSub, Nat.reduceLeDiff, Nat.reduceEqDiff, Nat.reduceBEq, ↓reduceIte, reduceCtorEq, Int.reduceEq, Int.reduceLE, Int.reduceLT, Int.reduceAdd, Int.reduceSub, Int.reduceNeg, Int.reduceToNat, Int.reduceNe, Nat.reducePow, Nat.reduceShiftRight, Nat.reduceMod, mc_term_constant, Tm.pv, *])
  all_goals (try (refine fin_tmp (.inr rfl) ?_; simp [upd, *] <;> (try omega); done))
  refine c_loopW 18013298997854256 (by kernel_rfl) (fun j f H m => ∃ i : Nat, j = ls.length - i ∧ i ≤ ls.length ∧ f 40 = .sc (.int .i64 i) ∧ (ls.take i).all (Lv.right np) = true) _ ⟨0, rfl, (by first | assumption | omega | rfl | (simp (disch := omega) only [go_sem, Nat.reduceMul, Nat.reduceSub, Nat.reduceShiftRight, Nat.reduceMod, Nat.reduceEqDiff, Nat.reduceAdd, ↓reduceIte, Nat.reduceLeDiff, *] <;> omega)), (by first | assumption | omega | rfl | (simp (disch := omega) only [go_sem, Nat.reduceMul, Nat.reduceSub, Nat.reduceShiftRight, Nat.reduceMod, Nat.reduceEqDiff, Nat.reduceAdd, ↓reduceIte, Nat.reduceLeDiff, *] <;> omega)), rfl⟩ ?_
  rintro _ f H m ⟨i, rfl, hi, e40, hall⟩
  by_cases hlt : i < ls.length
  · have eg : ls[i]? = some ls[i] := List.getElem?_eq_getElem hlt
    have ht := all_right_take np ls i hlt
    have hq := all_right_false np ls i hlt
    repeat' (first | ((with_reducible first | refine cond_pos (by omega) ?_ | refine cond_neg (by omega) ?_ | refine guard_pos (by omega) ?_ | refine guard_neg (by omega) ?_ | refine cond_ifn ?_ ?_ | refine cond_waysn ?_ ?_ | refine guard_ifn ?_ ?_ | refine guard_waysn ?_ ?_ | refine cond_if ?_ ?_ | refine cond_ways ?_ ?_ | refine guard_if ?_ ?_ | refine guard_ways ?_ ?_) <;> intro _) | (((with_reducible refine call_id ?_); (first | (refine call_pure (Right_p ls[i] np) ?_)))) | simp (maxSteps := 1000000) (disch := omega) only [go_sem, Nat.reduceAdd, Nat.reduceMul, Nat.reduceSub, Nat.reduceLeDiff, Nat.reduceEqDiff, Nat.reduceBEq, ↓reduceIte, reduceCtorEq, Int.reduceEq, Int.reduceLE, Int.reduceLT, Int.reduceAdd, Int.reduceSub, Int.reduceNeg, Int.reduceToNat, Int.reduceNe, Nat.reducePow, Nat.reduceShiftRight, Nat.reduceMod, Tm.pv, *])
    · rename_i h
      have := hq h
      refine fin_tmp (.inr rfl) ?_
      simp [upd, *]
    · rename_i h
      refine Nx.mk (ls.length - (i + 1)) (by first | assumption | omega | rfl | (simp (disch := omega) only [go_sem, Nat.reduceMul, Nat.reduceSub, Nat.reduceShiftRight, Nat.reduceMod, Nat.reduceEqDiff, Nat.reduceAdd, ↓reduceIte, Nat.reduceLeDiff, *] <;> omega)) ⟨i + 1, (by first | assumption | omega | rfl | (simp (disch := omega) only [go_sem, Nat.reduceMul, Nat.reduceSub, Nat.reduceShiftRight, Nat.reduceMod, Nat.reduceEqDiff, Nat.reduceAdd, ↓reduceIte, Nat.reduceLeDiff, *] <;> omega)), (by first | assumption | omega | rfl | (simp (disch := omega) only [go_sem, Nat.reduceMul, Nat.reduceSub, Nat.reduceShiftRight, Nat.reduceMod, Nat.reduceEqDiff, Nat.reduceAdd, ↓reduceIte, Nat.reduceLeDiff, *] <;> omega)), (by first | assumption | omega | rfl | (simp (disch := omega) only [go_sem, Nat.reduceMul, Nat.reduceSub, Nat.reduceShiftRight, Nat.reduceMod, Nat.reduceEqDiff, Nat.reduceAdd, ↓reduceIte, Nat.reduceLeDiff, *] <;> omega)), by rw [ht, hall, h]; rfl⟩
  · obtain rfl : i = ls.length := by omega
    rw [List.take_length] at hall
    repeat' (first | ((with_reducible first | refine cond_pos (by omega) ?_ | refine cond_neg (by omega) ?_ | refine guard_pos (by omega) ?_ | refine guard_neg (by omega) ?_ | refine cond_ifn ?_ ?_ | refine cond_waysn ?_ ?_ | refine guard_ifn ?_ ?_ | refine guard_waysn ?_ ?_ | refine cond_if ?_ ?_ | refine cond_ways ?_ ?_ | refine guard_if ?_ ?_ | refine guard_ways ?_ ?_) <;> intro _) | simp (maxSteps := 1000000) (disch := omega) only [go_sem, Nat.reduceAdd, Nat.reduceMul, Nat.reduceSub, Nat.reduceLeDiff, Nat.reduceEqDiff, Nat.reduceBEq, ↓reduceIte, reduceCtorEq, Int.reduceEq, Int.reduceLE, Int.reduceLT, Int.reduceAdd, Int.reduceSub, Int.reduceNeg, Int.reduceToNat, Int.reduceNe, Nat.reducePow, Nat.reduceShiftRight, Nat.reduceMod, Tm.pv, *])
    refine fin_tmp (.inr rfl) ?_
    simp [upd, *]
    omega
set_option maxHeartbeats 16000000 in
theorem formed_parts (np : Int) : ∀ fuel : Nat,
    (∀ (t : Tm) (k : Int), t.size ≤ fuel → 0 ≤ k → k + t.size ≤ 2 ^ 60 → PPure Try.prog F.term_formed [.ptr t.pv, .sc (.int .i64 np), .sc (.int .i64 k)] (.sc (.bool (t.formed np k)))) ∧
    (∀ (kind n : Int) (s : ByteArray) (ls : List Lv) (args : List Tm) (k : Int), sizeL args ≤ fuel → 0 ≤ k → k + sizeL args + 1 ≤ 2 ^ 60 → PPure Try.prog F.term_parts [.ptr (Tm.mk kind n s ls args).pv, .sc (.int .i64 np), .sc (.int .i64 k)] (.sc (.bool (formedA np k kind args.length 0 args)))) := by
  intro fuel
  induction fuel with
  | zero =>
    refine ⟨fun t k h => ?_, fun kind n s ls args k h h1 h2 => ?_⟩
    · have := size_pos t; omega
    · obtain rfl : args = [] := by have := len_sizeL args; exact List.eq_nil_of_length_eq_zero (by omega)
      refine pure_by is_term_parts (by simp) rfl fun hb nx => ?_
      repeat' (first | ((with_reducible first | refine cond_pos (by omega) ?_ | refine cond_neg (by omega) ?_ | refine guard_pos (by omega) ?_ | refine guard_neg (by omega) ?_ | refine cond_ifn ?_ ?_ | refine cond_waysn ?_ ?_ | refine guard_ifn ?_ ?_ | refine guard_waysn ?_ ?_ | refine cond_if ?_ ?_ | refine cond_ways ?_ ?_ | refine guard_if ?_ ?_ | refine guard_ways ?_ ?_) <;> intro _) | simp (maxSteps := 1000000) (disch := omega) only [go_sem, Nat.reduceAdd, Nat.reduceMul, Nat.reduceSub, Nat.reduceLeDiff, Nat.reduceEqDiff, Nat.reduceBEq, ↓reduceIte, reduceCtorEq, Int.reduceEq, Int.reduceLE, Int.reduceLT, Int.reduceAdd, Int.reduceSub, Int.reduceNeg, Int.reduceToNat, Int.reduceNe, Nat.reducePow, Nat.reduceShiftRight, Nat.reduceMod, mc_term_parts, Tm.pv, *])
      refine c_rounds 1 ?_
      repeat' (first | ((with_reducible first | refine cond_pos (by omega) ?_ | refine cond_neg (by omega) ?_ | refine guard_pos (by omega) ?_ | refine guard_neg (by omega) ?_ | refine cond_ifn ?_ ?_ | refine cond_waysn ?_ ?_ | refine guard_ifn ?_ ?_ | refine guard_waysn ?_ ?_ | refine cond_if ?_ ?_ | refine cond_ways ?_ ?_ | refine guard_if ?_ ?_ | refine guard_ways ?_ ?_) <;> intro _) | simp (maxSteps := 1000000) (disch := omega) only [go_sem, Nat.reduceAdd, Nat.reduceMul, Nat.reduceSub, Nat.reduceLeDiff, Nat.reduceEqDiff, Nat.reduceBEq, ↓reduceIte, reduceCtorEq, Int.reduceEq, Int.reduceLE, Int.reduceLT, Int.reduceAdd, Int.reduceSub, Int.reduceNeg, Int.reduceToNat, Int.reduceNe, Nat.reducePow, Nat.reduceShiftRight, Nat.reduceMod, rounds_next, *])
      (refine fin_tmp (.inr rfl) ?_; (first | rfl | (simp (disch := omega) only [go_sem, Nat.reduceMul, Nat.reduceSub, Nat.reduceShiftRight, Nat.reduceMod, Nat.reduceEqDiff, Nat.reduceAdd, ↓reduceIte, Nat.reduceLeDiff, formedA, *]; done) | (simp [formedA, upd, *]; done) | (simp [formedA, upd, *]; omega)))
  | succ fuel ih =>
    obtain ⟨ih1, ih2⟩ := ih
    have hparts : ∀ (kind n : Int) (s : ByteArray) (ls : List Lv) (args : List Tm) (k : Int), sizeL args ≤ fuel + 1 → 0 ≤ k → k + sizeL args + 1 ≤ 2 ^ 60 → (∀ x ∈ args, ∀ k' : Int, 0 ≤ k' → k' ≤ k + 1 → PPure Try.prog F.term_formed [.ptr x.pv, .sc (.int .i64 np), .sc (.int .i64 k')] (.sc (.bool (x.formed np k')))) →
        PPure Try.prog F.term_parts [.ptr (Tm.mk kind n s ls args).pv, .sc (.int .i64 np), .sc (.int .i64 k)] (.sc (.bool (formedA np k kind args.length 0 args))) := by
      intro kind n s ls args k hsz h0 h1 hx
      refine pure_by is_term_parts (by simp) rfl fun hb nx => ?_
      have hb0 : args.length ≤ 9223372036854775807 := by simp [Tm.pv, bndL, PV.bnd] at hb; exact hb.2.1
      repeat' (first | ((with_reducible first | refine cond_pos (by omega) ?_ | refine cond_neg (by omega) ?_ | refine guard_pos (by omega) ?_ | refine guard_neg (by omega) ?_ | refine cond_ifn ?_ ?_ | refine cond_waysn ?_ ?_ | refine guard_ifn ?_ ?_ | refine guard_waysn ?_ ?_ | refine cond_if ?_ ?_ | refine cond_ways ?_ ?_ | refine guard_if ?_ ?_ | refine guard_ways ?_ ?_) <;> intro _) | simp (maxSteps := 1000000) (disch := omega) only [go_sem, Nat.reduceAdd, Nat.reduceMul, Nat.reduceSub, Nat.reduceLeDiff, Nat.reduceEqDiff, Nat.reduceBEq, ↓reduceIte, reduceCtorEq, Int.reduceEq, Int.reduceLE, Int.reduceLT, Int.reduceAdd, Int.reduceSub, Int.reduceNeg, Int.reduceToNat, Int.reduceNe, Nat.reducePow, Nat.reduceShiftRight, Nat.reduceMod, mc_term_parts, Tm.pv, *])
      refine c_loopW 2147475648 (by kernel_rfl) (fun j f H m => ∃ i : Nat, j = args.length - i ∧ i ≤ args.length ∧ f 13 = .sc (.int .i64 i) ∧ Kept (formedA np k kind args.length 0 args = formedA np k kind args.length i (args.drop i))) _ ⟨0, rfl, (by first | assumption | omega | rfl | (simp (disch := omega) only [go_sem, Nat.reduceMul, Nat.reduceSub, Nat.reduceShiftRight, Nat.reduceMod, Nat.reduceEqDiff, Nat.reduceAdd, ↓reduceIte, Nat.reduceLeDiff, *] <;> omega)), (by first | assumption | omega | rfl | (simp (disch := omega) only [go_sem, Nat.reduceMul, Nat.reduceSub, Nat.reduceShiftRight, Nat.reduceMod, Nat.reduceEqDiff, Nat.reduceAdd, ↓reduceIte, Nat.reduceLeDiff, *] <;> omega)), Kept.mk (by rw [List.drop_zero])⟩ ?_
      rintro _ f H m ⟨i, rfl, hi, e13, hs⟩
      by_cases hlt : i < args.length
      · have eg : args[i]? = some args[i] := List.getElem?_eq_getElem hlt
        have hd := deep_bd kind args.length i
        have hst : Kept (formedA np k kind args.length i (args.drop i) = (args[i].formed np (k + deepB kind args.length i) && formedA np k kind args.length (i + 1) (args.drop (i + 1)))) := Kept.mk (by rw [List.drop_eq_getElem_cons hlt]; rfl)
        have hlen := len_sizeL args
        have hc1 := deeper_p (.mk kind n s ls args) i
        have hc2 := hc1 kind n s ls args rfl
        simp only [Tm.pv] at hc2
        have hc3 := hx args[i] (List.getElem_mem hlt) (k + deepB kind args.length i) (by omega) (by omega)
        clear hc1
        repeat' (first | ((with_reducible first | refine cond_pos (by omega) ?_ | refine cond_neg (by omega) ?_ | refine guard_pos (by omega) ?_ | refine guard_neg (by omega) ?_ | refine cond_ifn ?_ ?_ | refine cond_waysn ?_ ?_ | refine guard_ifn ?_ ?_ | refine guard_waysn ?_ ?_ | refine cond_if ?_ ?_ | refine cond_ways ?_ ?_ | refine guard_if ?_ ?_ | refine guard_ways ?_ ?_) <;> intro _) | (((with_reducible refine call_id ?_); (first | (refine call_pure (hc2) ?_) | (refine call_pure (hc3) ?_)))) | simp (maxSteps := 1000000) (disch := omega) only [go_sem, Nat.reduceAdd, Nat.reduceMul, Nat.reduceSub, Nat.reduceLeDiff, Nat.reduceEqDiff, Nat.reduceBEq, ↓reduceIte, reduceCtorEq, Int.reduceEq, Int.reduceLE, Int.reduceLT, Int.reduceAdd, Int.reduceSub, Int.reduceNeg, Int.reduceToNat, Int.reduceNe, Nat.reducePow, Nat.reduceShiftRight, Nat.reduceMod, Tm.pv, *])
        · rename_i h
          refine fin_tmp (.inr rfl) ?_
          rw [hs.out, hst.out, h]
          rfl
        · rename_i h
          refine Nx.mk (args.length - (i + 1)) (by first | assumption | omega | rfl | (simp (disch := omega) only [go_sem, Nat.reduceMul, Nat.reduceSub, Nat.reduceShiftRight, Nat.reduceMod, Nat.reduceEqDiff, Nat.reduceAdd, ↓reduceIte, Nat.reduceLeDiff, *] <;> omega)) ⟨i + 1, (by first | assumption | omega | rfl | (simp (disch := omega) only [go_sem, Nat.reduceMul, Nat.reduceSub, Nat.reduceShiftRight, Nat.reduceMod, Nat.reduceEqDiff, Nat.reduceAdd, ↓reduceIte, Nat.reduceLeDiff, *] <;> omega)), (by first | assumption | omega | rfl | (simp (disch := omega) only [go_sem, Nat.reduceMul, Nat.reduceSub, Nat.reduceShiftRight, Nat.reduceMod, Nat.reduceEqDiff, Nat.reduceAdd, ↓reduceIte, Nat.reduceLeDiff, *] <;> omega)), (by first | assumption | omega | rfl | (simp (disch := omega) only [go_sem, Nat.reduceMul, Nat.reduceSub, Nat.reduceShiftRight, Nat.reduceMod, Nat.reduceEqDiff, Nat.reduceAdd, ↓reduceIte, Nat.reduceLeDiff, *] <;> omega)), Kept.mk (by rw [hs.out, hst.out, h]; rfl)⟩
      · obtain rfl : i = args.length := by omega
        repeat' (first | ((with_reducible first | refine cond_pos (by omega) ?_ | refine cond_neg (by omega) ?_ | refine guard_pos (by omega) ?_ | refine guard_neg (by omega) ?_ | refine cond_ifn ?_ ?_ | refine cond_waysn ?_ ?_ | refine guard_ifn ?_ ?_ | refine guard_waysn ?_ ?_ | refine cond_if ?_ ?_ | refine cond_ways ?_ ?_ | refine guard_if ?_ ?_ | refine guard_ways ?_ ?_) <;> intro _) | simp (maxSteps := 1000000) (disch := omega) only [go_sem, Nat.reduceAdd, Nat.reduceMul, Nat.reduceSub, Nat.reduceLeDiff, Nat.reduceEqDiff, Nat.reduceBEq, ↓reduceIte, reduceCtorEq, Int.reduceEq, Int.reduceLE, Int.reduceLT, Int.reduceAdd, Int.reduceSub, Int.reduceNeg, Int.reduceToNat, Int.reduceNe, Nat.reducePow, Nat.reduceShiftRight, Nat.reduceMod, Tm.pv, *])
        have h2 := hs.out
        rw [List.drop_length] at h2
        refine fin_tmp (.inr rfl) ?_
        rw [h2]
        simp (disch := omega) only [go_sem, Nat.reduceMul, Nat.reduceSub, Nat.reduceShiftRight, Nat.reduceMod, Nat.reduceEqDiff, Nat.reduceAdd, ↓reduceIte, Nat.reduceLeDiff, formedA]
    have hmem : ∀ (args : List Tm) (x : Tm), x ∈ args → x.size ≤ sizeL args := fun args x hx => by
      obtain ⟨i, hi, e⟩ := List.getElem_of_mem hx
      rw [← e]; exact sizeL_mem args i hi
    have hformed : ∀ (t : Tm) (k : Int), t.size ≤ fuel + 1 → 0 ≤ k → k + t.size ≤ 2 ^ 60 → PPure Try.prog F.term_formed [.ptr t.pv, .sc (.int .i64 np), .sc (.int .i64 k)] (.sc (.bool (t.formed np k))) := by
      intro t k hsz h0 h1
      cases t with
      | mk kind n s ls args =>
      simp only [Tm.size] at hsz h1
      have c1 := has_p kind n s ls args
      have c2 := constant_p kind n s ls args np
      have c3 := hparts kind n s ls args k (by omega) h0 (by omega) fun x hx k' h2 h3 => ih1 x k' (by have := hmem args x hx; omega) h2 (by have := hmem args x hx; omega)
      simp only [Tm.pv] at c1 c2 c3
      clear ih1 ih2 hparts hmem
      refine pure_by is_term_formed (by simp) rfl fun hb nx => ?_
      by_cases k1 : kind = 1
      · subst k1
        repeat' (first | ((with_reducible first | refine cond_pos (by omega) ?_ | refine cond_neg (by omega) ?_ | refine guard_pos (by omega) ?_ | refine guard_neg (by omega) ?_ | refine cond_ifn ?_ ?_ | refine cond_waysn ?_ ?_ | refine guard_ifn ?_ ?_ | refine guard_waysn ?_ ?_ | refine cond_if ?_ ?_ | refine cond_ways ?_ ?_ | refine guard_if ?_ ?_ | refine guard_ways ?_ ?_) <;> intro _) | (((with_reducible refine call_id ?_); (first | (refine call_pure (c1 n 0 0) ?_)))) | simp (maxSteps := 1000000) (disch := omega) only [go_sem, Nat.reduceAdd, Nat.reduceMul, Nat.reduceSub, Nat.reduceLeDiff, Nat.reduceEqDiff, Nat.reduceBEq, ↓reduceIte, reduceCtorEq, Int.reduceEq, Int.reduceLE, Int.reduceLT, Int.reduceAdd, Int.reduceSub, Int.reduceNeg, Int.reduceToNat, Int.reduceNe, Nat.reducePow, Nat.reduceShiftRight, Nat.reduceMod, mc_term_formed, Tm.pv, *])
        all_goals (refine fin_tmp (.inr rfl) ?_; simp [upd, Tm.formed, headR, *]; try omega)
      by_cases k2 : kind = 2
      · subst k2
        by_cases h2 : hasB n s ls args 0 1 0 = true
        · have hl : ls.length = 1 := by
            simp only [hasB, Bool.and_eq_true, decide_eq_true_eq] at h2
            omega
          match ls, hl with
          | [l], _ =>
            repeat' (first | ((with_reducible first | refine cond_pos (by omega) ?_ | refine cond_neg (by omega) ?_ | refine guard_pos (by omega) ?_ | refine guard_neg (by omega) ?_ | refine cond_ifn ?_ ?_ | refine cond_waysn ?_ ?_ | refine guard_ifn ?_ ?_ | refine guard_waysn ?_ ?_ | refine cond_if ?_ ?_ | refine cond_ways ?_ ?_ | refine guard_if ?_ ?_ | refine guard_ways ?_ ?_) <;> intro _) | (((with_reducible refine call_id ?_); (first | (refine call_pure (c1 0 1 0) ?_) | (refine call_pure (Right_p l np) ?_)))) | simp (maxSteps := 1000000) (disch := omega) only [go_sem, Nat.reduceAdd, Nat.reduceMul, Nat.reduceSub, Nat.reduceLeDiff, Nat.reduceEqDiff, Nat.reduceBEq, ↓reduceIte, reduceCtorEq, Int.reduceEq, Int.reduceLE, Int.reduceLT, Int.reduceAdd, Int.reduceSub, Int.reduceNeg, Int.reduceToNat, Int.reduceNe, Nat.reducePow, Nat.reduceShiftRight, Nat.reduceMod, mc_term_formed, Tm.pv, *])
            all_goals (refine fin_tmp (.inr rfl) ?_; simp [upd, Tm.formed, headR, *]; try omega)
        · repeat' (first | ((with_reducible first | refine cond_pos (by omega) ?_ | refine cond_neg (by omega) ?_ | refine guard_pos (by omega) ?_ | refine guard_neg (by omega) ?_ | refine cond_ifn ?_ ?_ | refine cond_waysn ?_ ?_ | refine guard_ifn ?_ ?_ | refine guard_waysn ?_ ?_ | refine cond_if ?_ ?_ | refine cond_ways ?_ ?_ | refine guard_if ?_ ?_ | refine guard_ways ?_ ?_) <;> intro _) | (((with_reducible refine call_id ?_); (first | (refine call_pure (c1 0 1 0) ?_)))) | simp (maxSteps := 1000000) (disch := omega) only [go_sem, Nat.reduceAdd, Nat.reduceMul, Nat.reduceSub, Nat.reduceLeDiff, Nat.reduceEqDiff, Nat.reduceBEq, ↓reduceIte, reduceCtorEq, Int.reduceEq, Int.reduceLE, Int.reduceLT, Int.reduceAdd, Int.reduceSub, Int.reduceNeg, Int.reduceToNat, Int.reduceNe, Nat.reducePow, Nat.reduceShiftRight, Nat.reduceMod, mc_term_formed, Tm.pv, *])
          all_goals (refine fin_tmp (.inr rfl) ?_; simp [upd, Tm.formed, headR, *]; try omega)
      by_cases k3 : kind = 3
      · subst k3
        repeat' (first | ((with_reducible first | refine cond_pos (by omega) ?_ | refine cond_neg (by omega) ?_ | refine guard_pos (by omega) ?_ | refine guard_neg (by omega) ?_ | refine cond_ifn ?_ ?_ | refine cond_waysn ?_ ?_ | refine guard_ifn ?_ ?_ | refine guard_waysn ?_ ?_ | refine cond_if ?_ ?_ | refine cond_ways ?_ ?_ | refine guard_if ?_ ?_ | refine guard_ways ?_ ?_) <;> intro _) | (((with_reducible refine call_id ?_); (first | (refine call_pure (c2) ?_)))) | simp (maxSteps := 1000000) (disch := omega) only [go_sem, Nat.reduceAdd, Nat.reduceMul, Nat.reduceSub, Nat.reduceLeDiff, Nat.reduceEqDiff, Nat.reduceBEq, ↓reduceIte, reduceCtorEq, Int.reduceEq, Int.reduceLE, Int.reduceLT, Int.reduceAdd, Int.reduceSub, Int.reduceNeg, Int.reduceToNat, Int.reduceNe, Nat.reducePow, Nat.reduceShiftRight, Nat.reduceMod, mc_term_formed, Tm.pv, *])
        all_goals (refine fin_tmp (.inr rfl) ?_; simp [upd, Tm.formed, headR, *]; try omega)
      by_cases k4 : kind = 4
      · subst k4
        repeat' (first | ((with_reducible first | refine cond_pos (by omega) ?_ | refine cond_neg (by omega) ?_ | refine guard_pos (by omega) ?_ | refine guard_neg (by omega) ?_ | refine cond_ifn ?_ ?_ | refine cond_waysn ?_ ?_ | refine guard_ifn ?_ ?_ | refine guard_waysn ?_ ?_ | refine cond_if ?_ ?_ | refine cond_ways ?_ ?_ | refine guard_if ?_ ?_ | refine guard_ways ?_ ?_) <;> intro _) | (((with_reducible refine call_id ?_); (first | (refine call_pure (c1 0 0 2) ?_) | (refine call_pure (c3) ?_)))) | simp (maxSteps := 1000000) (disch := omega) only [go_sem, Nat.reduceAdd, Nat.reduceMul, Nat.reduceSub, Nat.reduceLeDiff, Nat.reduceEqDiff, Nat.reduceBEq, ↓reduceIte, reduceCtorEq, Int.reduceEq, Int.reduceLE, Int.reduceLT, Int.reduceAdd, Int.reduceSub, Int.reduceNeg, Int.reduceToNat, Int.reduceNe, Nat.reducePow, Nat.reduceShiftRight, Nat.reduceMod, mc_term_formed, Tm.pv, *])
        all_goals (refine fin_tmp (.inr rfl) ?_; simp [upd, Tm.formed, headR, *]; try omega)
      by_cases k5 : kind = 5
      · subst k5
        repeat' (first | ((with_reducible first | refine cond_pos (by omega) ?_ | refine cond_neg (by omega) ?_ | refine guard_pos (by omega) ?_ | refine guard_neg (by omega) ?_ | refine cond_ifn ?_ ?_ | refine cond_waysn ?_ ?_ | refine guard_ifn ?_ ?_ | refine guard_waysn ?_ ?_ | refine cond_if ?_ ?_ | refine cond_ways ?_ ?_ | refine guard_if ?_ ?_ | refine guard_ways ?_ ?_) <;> intro _) | (((with_reducible refine call_id ?_); (first | (refine call_pure (c1 0 0 2) ?_) | (refine call_pure (c3) ?_)))) | simp (maxSteps := 1000000) (disch := omega) only [go_sem, Nat.reduceAdd, Nat.reduceMul, Nat.reduceSub, Nat.reduceLeDiff, Nat.reduceEqDiff, Nat.reduceBEq, ↓reduceIte, reduceCtorEq, Int.reduceEq, Int.reduceLE, Int.reduceLT, Int.reduceAdd, Int.reduceSub, Int.reduceNeg, Int.reduceToNat, Int.reduceNe, Nat.reducePow, Nat.reduceShiftRight, Nat.reduceMod, mc_term_formed, Tm.pv, *])
        all_goals (refine fin_tmp (.inr rfl) ?_; simp [upd, Tm.formed, headR, *]; try omega)
      by_cases k6 : kind = 6
      · subst k6
        repeat' (first | ((with_reducible first | refine cond_pos (by omega) ?_ | refine cond_neg (by omega) ?_ | refine guard_pos (by omega) ?_ | refine guard_neg (by omega) ?_ | refine cond_ifn ?_ ?_ | refine cond_waysn ?_ ?_ | refine guard_ifn ?_ ?_ | refine guard_waysn ?_ ?_ | refine cond_if ?_ ?_ | refine cond_ways ?_ ?_ | refine guard_if ?_ ?_ | refine guard_ways ?_ ?_) <;> intro _) | (((with_reducible refine call_id ?_); (first | (refine call_pure (c1 0 0 2) ?_) | (refine call_pure (c3) ?_)))) | simp (maxSteps := 1000000) (disch := omega) only [go_sem, Nat.reduceAdd, Nat.reduceMul, Nat.reduceSub, Nat.reduceLeDiff, Nat.reduceEqDiff, Nat.reduceBEq, ↓reduceIte, reduceCtorEq, Int.reduceEq, Int.reduceLE, Int.reduceLT, Int.reduceAdd, Int.reduceSub, Int.reduceNeg, Int.reduceToNat, Int.reduceNe, Nat.reducePow, Nat.reduceShiftRight, Nat.reduceMod, mc_term_formed, Tm.pv, *])
        all_goals (refine fin_tmp (.inr rfl) ?_; simp [upd, Tm.formed, headR, *]; try omega)
      by_cases k7 : kind = 7
      · subst k7
        repeat' (first | ((with_reducible first | refine cond_pos (by omega) ?_ | refine cond_neg (by omega) ?_ | refine guard_pos (by omega) ?_ | refine guard_neg (by omega) ?_ | refine cond_ifn ?_ ?_ | refine cond_waysn ?_ ?_ | refine guard_ifn ?_ ?_ | refine guard_waysn ?_ ?_ | refine cond_if ?_ ?_ | refine cond_ways ?_ ?_ | refine guard_if ?_ ?_ | refine guard_ways ?_ ?_) <;> intro _) | (((with_reducible refine call_id ?_); (first | (refine call_pure (c1 0 0 3) ?_) | (refine call_pure (c3) ?_)))) | simp (maxSteps := 1000000) (disch := omega) only [go_sem, Nat.reduceAdd, Nat.reduceMul, Nat.reduceSub, Nat.reduceLeDiff, Nat.reduceEqDiff, Nat.reduceBEq, ↓reduceIte, reduceCtorEq, Int.reduceEq, Int.reduceLE, Int.reduceLT, Int.reduceAdd, Int.reduceSub, Int.reduceNeg, Int.reduceToNat, Int.reduceNe, Nat.reducePow, Nat.reduceShiftRight, Nat.reduceMod, mc_term_formed, Tm.pv, *])
        all_goals (refine fin_tmp (.inr rfl) ?_; simp [upd, Tm.formed, headR, *]; try omega)
      clear c1 c2 c3
      repeat' (first | ((with_reducible first | refine cond_pos (by omega) ?_ | refine cond_neg (by omega) ?_ | refine guard_pos (by omega) ?_ | refine guard_neg (by omega) ?_ | refine cond_ifn ?_ ?_ | refine cond_waysn ?_ ?_ | refine guard_ifn ?_ ?_ | refine guard_waysn ?_ ?_ | refine cond_if ?_ ?_ | refine cond_ways ?_ ?_ | refine guard_if ?_ ?_ | refine guard_ways ?_ ?_) <;> intro _) | simp (maxSteps := 1000000) (disch := omega) only [go_sem, Nat.reduceAdd, Nat.reduceMul, Nat.reduceSub, Nat.reduceLeDiff, Nat.reduceEqDiff, Nat.reduceBEq, ↓reduceIte, reduceCtorEq, Int.reduceEq, Int.reduceLE, Int.reduceLT, Int.reduceAdd, Int.reduceSub, Int.reduceNeg, Int.reduceToNat, Int.reduceNe, Nat.reducePow, Nat.reduceShiftRight, Nat.reduceMod, mc_term_formed, Tm.pv, *])
      all_goals (refine fin_tmp (.inr rfl) ?_; simp [upd, Tm.formed, headR, *]; try omega)
    exact ⟨hformed, fun kind n s ls args k hsz h0 h1 => hparts kind n s ls args k hsz h0 h1 fun x hx k' h2 h3 => hformed x k' (by have := hmem args x hx; omega) h2 (by have := hmem args x hx; omega)⟩
end
section
attribute [local go_sem] pv_len pv_take rounds_next Nat.add_assoc id_ne id_ne' id_ne2 List.append_assoc
structure Fm where
  num : Int
  a0 : Int
  a1 : Int
  a2 : Int
  a3 : Int
def Fm.pv (f : Fm) : List PV := [.sc (.int .i64 f.num), .sc (.int .i64 f.a0), .sc (.int .i64 f.a1), .sc (.int .i64 f.a2), .sc (.int .i64 f.a3)]
structure Fm.Ok (f : Fm) (m : Int) : Prop where
  n0 : 0 ≤ f.num
  n1 : f.num ≤ m
  b0 : -1 ≤ f.a0
  c0 : f.a0 ≤ m
  b1 : -1 ≤ f.a1
  c1 : f.a1 ≤ m
  b2 : -1 ≤ f.a2
  c2 : f.a2 ≤ m
  b3 : -1 ≤ f.a3
  c3 : f.a3 ≤ m
def up (n a : Int) : Int := if a = -1 then n else max n (a + 1)
def Fm.leastN (f : Fm) : Nat → Int
  | 0 => f.num
  | 1 => up f.num f.a0
  | 2 => up (up f.num f.a0) f.a1
  | 3 => up (up (up f.num f.a0) f.a1) f.a2
  | _ => up (up (up (up f.num f.a0) f.a1) f.a2) f.a3
def Fm.least (f : Fm) : Int := f.leastN 4
def Fm.short (f : Fm) : Fm := if (Fm.mk 0 f.a0 f.a1 f.a2 f.a3).least < f.num then f else ⟨0, f.a0, f.a1, f.a2, f.a3⟩
def inc (a : Int) : Int := if a = -1 then -1 else a + 1
def Fm.succ (f : Fm) : Fm := (Fm.mk (f.num + 1) (inc f.a0) (inc f.a1) (inc f.a2) (inc f.a3)).short
def Fm.max (f g : Fm) : Fm := (Fm.mk (Max.max f.num g.num) (Max.max f.a0 g.a0) (Max.max f.a1 g.a1) (Max.max f.a2 g.a2) (Max.max f.a3 g.a3)).short
def Fm.same (f g : Fm) : Bool := decide (f.num = g.num) && (decide (f.a0 = g.a0) && (decide (f.a1 = g.a1) && (decide (f.a2 = g.a2) && decide (f.a3 = g.a3))))
end
section
attribute [local go_sem] pv_len pv_take rounds_next List.append_assoc Nat.add_assoc id_ne id_ne' id_ne2
def Fm.one (n : Int) : Fm := ⟨0, if n = 0 then 0 else -1, if n = 1 then 0 else -1, if n = 2 then 0 else -1, if n = 3 then 0 else -1⟩
theorem Fm.Ok.mono {f : Fm} {m m' : Int} (h : f.Ok m) (hm : m ≤ m') : f.Ok m' :=
  ⟨h.n0, by have := h.n1; omega, h.b0, by have := h.c0; omega, h.b1, by have := h.c1; omega, h.b2, by have := h.c2; omega, h.b3, by have := h.c3; omega⟩
end
section
attribute [local go_sem] pv_len pv_take id_ne id_ne' id_ne2 rounds_next List.append_assoc Nat.add_assoc
theorem frz_sc (k : Nat) (H : Nat → Option PObj) (v : Value) : frz k H (.sc v) = .sc v := by cases k <;> rfl
theorem frz_sl (k : Nat) (H : Nat → Option PObj) (sz : Nat) (es : List (List PV)) : frz k H (.sl sz es) = .sl sz es := by cases k <;> rfl
theorem frz_pv (k : Nat) (H : Nat → Option PObj) (l : Lv) : l.pv.map (frz k H) = l.pv := by
  cases l
  simp [Lv.pv, frz_sc, frz_sl]
theorem pv_one (l : Lv) : l.pv.all PV.one = true := by
  cases l
  simp [Lv.pv, PV.one, Value.oneCell']
theorem lv_imm : ∀ (fuel : Nat) (l : Lv), l.nodes ≤ fuel → immL l.pv = true := by
  intro fuel
  induction fuel with
  | zero => intro l h; have := nodes_pos l; omega
  | succ fuel ih =>
    intro l h
    cases l with
    | mk k n args =>
    simp only [Lv.nodes] at h
    simp only [Lv.pv, immL, PV.imm, Bool.true_and, Bool.and_true]
    have key : ∀ ls : List Lv, nodesL ls ≤ fuel → immLL (ls.map Lv.pv) = true := by
      intro ls
      induction ls with
      | nil => intro _; rfl
      | cons x r ihr =>
        intro hl
        simp only [nodesL] at hl
        simp only [List.map_cons, immLL, Bool.and_eq_true]
        exact ⟨ih x (by omega), ihr (by omega)⟩
    exact key args (by omega)
theorem pv_imm (l : Lv) : immL l.pv = true := lv_imm l.nodes l (Nat.le_refl _)
def halfL (xs : List Lv) (n : Nat) : List PV := xs.flatMap Lv.pv ++ zeros [.int .i64 0, .int .i64 0, .slice none 0 0] n
theorem flat_len : ∀ xs : List Lv, (xs.flatMap Lv.pv).length = xs.length * 3
  | [] => rfl
  | x :: r => by simp only [List.flatMap_cons, List.length_append, pv_len, flat_len r, List.length_cons]; omega
theorem zeros_len (z : List Value) : ∀ n, (zeros z n).length = n * z.length
  | 0 => by simp [zeros]
  | n + 1 => by simp only [zeros, List.length_append, List.length_map, zeros_len z n, Nat.succ_mul]; omega
theorem half_len (xs : List Lv) (n : Nat) : (halfL xs n).length = xs.length * 3 + n * 3 := by
  simp only [halfL, List.length_append, flat_len, zeros_len]
  rfl
theorem half_set (xs : List Lv) (x : Lv) (n : Nat) : (halfL xs (n + 1)).take (xs.length * 3) ++ x.pv ++ (halfL xs (n + 1)).drop (xs.length * 3 + 3) = halfL (xs ++ [x]) n := by
  have h := flat_len xs
  have h3 : ([.int .i64 0, .int .i64 0, .slice none 0 0] : List Value).length = 3 := rfl
  simp only [halfL, zeros]
  rw [List.take_left' h, List.flatMap_append, ← List.drop_drop, List.drop_left' h, List.drop_left' (by simp)]
  simp [List.append_assoc]
theorem half_set' (xs : List Lv) (i n : Nat) (x : Lv) (hi : i < n) (h : xs.length = i) : (halfL xs (n - i)).take (i * 3) ++ (x.pv ++ (halfL xs (n - i)).drop (i * 3 + 3)) = halfL (xs ++ [x]) (n - (i + 1)) := by
  have e : n - i = (n - (i + 1)) + 1 := by omega
  have := half_set xs x (n - (i + 1))
  rw [h] at this
  rw [e, ← List.append_assoc]
  exact this
theorem half_chunks (H : Nat → Option PObj) (k : Nat) : ∀ xs : List Lv, chunks 3 xs.length ((halfL xs 0).map (frz k H)) = xs.map Lv.pv
  | [] => rfl
  | x :: r => by
    have ih := half_chunks H k r
    have e : (halfL (x :: r) 0).map (frz k H) = x.pv ++ (halfL r 0).map (frz k H) := by
      simp [halfL, zeros, frz_pv]
    have h3 := pv_len x
    rw [e]
    simp only [List.length_cons, chunks, List.map_cons]
    rw [List.take_left' h3, List.drop_left' h3, ih]
set_option maxHeartbeats 8000000 in
theorem clone_p : ∀ (fuel : Nat) (l : Lv), l.nodes ≤ fuel → l.nodes ≤ 2 ^ 40 → PPure Try.prog F.level_clone [.ptr l.pv] (.agg l.pv) := by
  intro fuel
  induction fuel with
  | zero => intro l h; have := nodes_pos l; omega
  | succ fuel ih =>
    intro l hf hm
    refine pure_by is_level_clone (by simp) (by simp [PV.imm, pv_imm]) fun hb nx => ?_
    cases l with
    | mk k n args =>
    simp only [Lv.nodes] at hf hm
    by_cases h0 : args = []
    · subst h0
      simp (maxSteps := 1000000) (disch := omega) only [go_sem, Nat.reduceAdd, Nat.reduceMul, Nat.reduceSub, Nat.reduceLeDiff, Nat.reduceEqDiff, Nat.reduceBEq, ↓reduceIte, reduceCtorEq, Int.reduceEq, Int.reduceLE, Int.reduceLT, Int.reduceAdd, Int.reduceSub, Int.reduceNeg, Int.reduceToNat, Int.reduceNe, Nat.reducePow, Nat.reduceShiftRight, Nat.reduceMod, mc_level_clone, Lv.pv]
      refine c_rounds 1 ?_
      simp (maxSteps := 1000000) (disch := omega) only [go_sem, Nat.reduceAdd, Nat.reduceMul, Nat.reduceSub, Nat.reduceLeDiff, Nat.reduceEqDiff, Nat.reduceBEq, ↓reduceIte, reduceCtorEq, Int.reduceEq, Int.reduceLE, Int.reduceLT, Int.reduceAdd, Int.reduceSub, Int.reduceNeg, Int.reduceToNat, Int.reduceNe, Nat.reducePow, Nat.reduceShiftRight, Nat.reduceMod]
      exact fin_ret 1 (by simp [resP, resPs, resP1, upd, loadP]; rfl) (by simp only [frz, List.map_cons, List.map_nil, frz_sc]; exact .agg ⟨.refl _, .refl _, .nil 3, trivial⟩)
    · have hpos : 0 < args.length := List.length_pos_iff.2 h0
      have hlen : args.length ≤ nodesL args := by
        clear hf hm hb h0 hpos
        induction args with
        | nil => simp
        | cons x r ihr => have := nodes_pos x; simp only [List.length_cons, nodesL]; omega
      have q1 : (0 : Int) < (args.length : Int) := by omega
      have q47 : (2 : Int) ^ 47 = 140737488355328 := by decide
      have q2 : (40 : Int) * (args.length : Int) ≤ 2 ^ 47 := by omega
      have q3 : (args.length : Int) ≤ 2 ^ 47 := by omega
      simp (maxSteps := 1000000) (disch := omega) only [go_sem, Nat.reduceAdd, Nat.reduceMul, Nat.reduceSub, Nat.reduceLeDiff, Nat.reduceEqDiff, Nat.reduceBEq, ↓reduceIte, reduceCtorEq, Int.reduceEq, Int.reduceLE, Int.reduceLT, Int.reduceAdd, Int.reduceSub, Int.reduceNeg, Int.reduceToNat, Int.reduceNe, Nat.reducePow, Nat.reduceShiftRight, Nat.reduceMod, mc_level_clone, Lv.pv, q1, q2, q3]
      refine c_loop (fun j s => ∃ i a b c : Nat, ∃ oc : PObj, j = args.length - i ∧ i ≤ args.length ∧ a ≠ b ∧ b ≠ a ∧ c ≠ a ∧ c ≠ b ∧ a ≠ c ∧ b ≠ c ∧ oc.cells.length = 3 ∧ s.s 2 = .optr c 0 ∧ s.H c = some oc ∧ s.s 0 = .ptr (Lv.mk k n args).pv ∧ s.s 3 = .optr a 0 ∧ s.s 31 = .sc (.int .i64 args.length) ∧ s.s 32 = .sc (.int .i64 i) ∧
        s.H a = some ⟨[.sc (.int .i64 k), .sc (.int .i64 n), .osl b 0 args.length 3], true⟩ ∧ s.H b = some ⟨halfL (args.take i) (args.length - i), true⟩) _ ⟨0, nx + 10, nx + 23, nx, ⟨[.sc (.int .i64 0), .sc (.int .i64 0), .sc (.slice none 0 0)], true⟩, rfl, by omega, by omega, by omega, by omega, by omega, by omega, by omega, rfl, by simp only [go_sem, Nat.reduceAdd, Nat.reduceMul, Nat.reduceSub, Nat.reduceLeDiff, Nat.reduceEqDiff, Nat.reduceBEq, ↓reduceIte, reduceCtorEq, Int.reduceEq, Int.reduceLE, Int.reduceLT, Int.reduceAdd, Int.reduceSub, Int.reduceNeg, Int.reduceToNat, Int.reduceNe, Nat.reducePow, Nat.reduceShiftRight, Nat.reduceMod], by simp (disch := omega) only [go_sem, Nat.reduceAdd, Nat.reduceMul, Nat.reduceSub, Nat.reduceLeDiff, Nat.reduceEqDiff, Nat.reduceBEq, ↓reduceIte, reduceCtorEq, Int.reduceEq, Int.reduceLE, Int.reduceLT, Int.reduceAdd, Int.reduceSub, Int.reduceNeg, Int.reduceToNat, Int.reduceNe, Nat.reducePow, Nat.reduceShiftRight, Nat.reduceMod], by simp [upd, sigF, sig_eq, Lv.pv], by simp only [go_sem, Nat.reduceAdd, Nat.reduceMul, Nat.reduceSub, Nat.reduceLeDiff, Nat.reduceEqDiff, Nat.reduceBEq, ↓reduceIte, reduceCtorEq, Int.reduceEq, Int.reduceLE, Int.reduceLT, Int.reduceAdd, Int.reduceSub, Int.reduceNeg, Int.reduceToNat, Int.reduceNe, Nat.reducePow, Nat.reduceShiftRight, Nat.reduceMod], by simp only [go_sem, Nat.reduceAdd, Nat.reduceMul, Nat.reduceSub, Nat.reduceLeDiff, Nat.reduceEqDiff, Nat.reduceBEq, ↓reduceIte, reduceCtorEq, Int.reduceEq, Int.reduceLE, Int.reduceLT, Int.reduceAdd, Int.reduceSub, Int.reduceNeg, Int.reduceToNat, Int.reduceNe, Nat.reducePow, Nat.reduceShiftRight, Nat.reduceMod], by simp only [go_sem, Nat.reduceAdd, Nat.reduceMul, Nat.reduceSub, Nat.reduceLeDiff, Nat.reduceEqDiff, Nat.reduceBEq, ↓reduceIte, reduceCtorEq, Int.reduceEq, Int.reduceLE, Int.reduceLT, Int.reduceAdd, Int.reduceSub, Int.reduceNeg, Int.reduceToNat, Int.reduceNe, Nat.reducePow, Nat.reduceShiftRight, Nat.reduceMod, Int.ofNat_zero], by simp only [go_sem, Nat.reduceAdd, Nat.reduceMul, Nat.reduceSub, Nat.reduceLeDiff, Nat.reduceEqDiff, Nat.reduceBEq, ↓reduceIte, reduceCtorEq, Int.reduceEq, Int.reduceLE, Int.reduceLT, Int.reduceAdd, Int.reduceSub, Int.reduceNeg, Int.reduceToNat, Int.reduceNe, Nat.reducePow, Nat.reduceShiftRight, Nat.reduceMod], by simp only [go_sem, Nat.reduceAdd, Nat.reduceMul, Nat.reduceSub, Nat.reduceLeDiff, Nat.reduceEqDiff, Nat.reduceBEq, ↓reduceIte, reduceCtorEq, Int.reduceEq, Int.reduceLE, Int.reduceLT, Int.reduceAdd, Int.reduceSub, Int.reduceNeg, Int.reduceToNat, Int.reduceNe, Nat.reducePow, Nat.reduceShiftRight, Nat.reduceMod]; rfl⟩ ?_
      rintro _ s ⟨i, a, b, c, oc, rfl, hi, hab, hba, hca, hcb, hac, hbc, hoc, e2, hc, e0, e3, e31, e32, ha, hbk⟩
      by_cases hlt : i < args.length
      · have eg : args[i]? = some args[i] := List.getElem?_eq_getElem hlt
        have hfit : i * 3 + 3 ≤ i * 3 + (args.length - i) * 3 := by omega
        have htl : (args.take i).length = i := by simp; omega
        simp (maxSteps := 1000000) (disch := omega) only [go_sem, Nat.reduceAdd, Nat.reduceMul, Nat.reduceSub, Nat.reduceLeDiff, Nat.reduceEqDiff, Nat.reduceBEq, ↓reduceIte, reduceCtorEq, Int.reduceEq, Int.reduceLE, Int.reduceLT, Int.reduceAdd, Int.reduceSub, Int.reduceNeg, Int.reduceToNat, Int.reduceNe, Nat.reducePow, Nat.reduceShiftRight, Nat.reduceMod, hlt, Lv.pv, e0, e3, e31, e32, ha, hbk, hab, hba, e2, hc, hoc, hca, hcb, hac, hbc, eg]
        refine call_pure (ih args[i] (by have := nodesL_mem args i hlt; omega) (by have := nodesL_mem args i hlt; omega)) ?_
        simp (maxSteps := 1000000) (disch := omega) only [go_sem, Nat.reduceAdd, Nat.reduceMul, Nat.reduceSub, Nat.reduceLeDiff, Nat.reduceEqDiff, Nat.reduceBEq, ↓reduceIte, reduceCtorEq, Int.reduceEq, Int.reduceLE, Int.reduceLT, Int.reduceAdd, Int.reduceSub, Int.reduceNeg, Int.reduceToNat, Int.reduceNe, Nat.reducePow, Nat.reduceShiftRight, Nat.reduceMod, hlt, Lv.pv, e0, e3, e31, e32, ha, hbk, hab, hba, e2, hc, hoc, hca, hcb, hac, hbc, eg, pv_one, half_len, htl, hfit]
        refine ⟨args.length - (i + 1), by omega, i + 1, a, b, c, oc, rfl, by omega, hab, hba, hca, hcb, hac, hbc, hoc, rfl, ?_, rfl, by simp, ?_, ?_⟩
        · rw [if_neg hcb]; exact hc
        · rw [if_neg hab]; exact ha
        · rw [if_pos rfl, half_set' (args.take i) i args.length args[i] hlt htl]
          simp
      · have hj : i = args.length := by omega
        subst hj
        simp (maxSteps := 1000000) (disch := omega) only [go_sem, Nat.reduceAdd, Nat.reduceMul, Nat.reduceSub, Nat.reduceLeDiff, Nat.reduceEqDiff, Nat.reduceBEq, ↓reduceIte, reduceCtorEq, Int.reduceEq, Int.reduceLE, Int.reduceLT, Int.reduceAdd, Int.reduceSub, Int.reduceNeg, Int.reduceToNat, Int.reduceNe, Nat.reducePow, Nat.reduceShiftRight, Nat.reduceMod, hlt, Lv.pv, e0, e3, e31, e32, ha, hbk, hab, hba, e2, hc, hoc, hca, hcb, hac, hbc]
        have hbk2 : s.H b = some ⟨halfL args 0, true⟩ := by rw [hbk, List.take_length, Nat.sub_self]
        have hfl := half_len args 0
        simp only [Nat.zero_mul, Nat.add_zero] at hfl
        refine fin_ret (r0 := .agg [.sc (.int .i64 k), .sc (.int .i64 n), .osl b 0 args.length 3]) 2 (by simp [resP, resPs, resP1, upd, loadP]) (.of_eq ?_)
        have hch : chunks 3 args.length (halfL args 0) = args.map Lv.pv := by simpa [frz] using half_chunks noneOwn 0 args
        have htk : (halfL args 0).take (args.length * 3) = halfL args 0 := List.take_of_length_le (by omega)
        simp only [frz, List.map_cons, List.map_nil, hbk2, hab, hba, hbc, upd_get, if_false, List.drop_zero, hfl, Nat.zero_add, Nat.le_refl, if_true, htk]
        rw [List.map_id', hch]
end
section
attribute [local go_sem] pv_len pv_take id_ne id_ne' id_ne2 rounds_next Nat.add_assoc pv_one
theorem pv_take_app (l : Lv) (r : List PV) : (l.pv ++ r).take 3 = l.pv := List.take_left' (pv_len l)
attribute [local go_sem] pv_take_app
theorem frz_agg_pv (k : Nat) (H : Nat → Option PObj) (l : Lv) : frz k H (.agg l.pv) = .agg l.pv := by
  cases k with
  | zero => rfl
  | succ k => show PV.agg (l.pv.map (frz k H)) = _; rw [frz_pv]
def lvs (ls : List Lv) : PV := .sl 3 (ls.map Lv.pv)
end
section
attribute [local go_sem] pv_len pv_take id_ne id_ne' id_ne2 rounds_next List.append_assoc Nat.add_assoc pv_one
mutual
def Lv.inst (bys : List Lv) : Lv → Lv
  | .mk k n args => if k = 2 then bys.getD n.toNat (.mk 1 0 []) else .mk k n (instL bys args)
def instL (bys : List Lv) : List Lv → List Lv
  | [] => []
  | x :: r => x.inst bys :: instL bys r
end
theorem instL_eq (bys : List Lv) : ∀ ls, instL bys ls = ls.map (Lv.inst bys)
  | [] => rfl
  | x :: r => by simp only [instL, List.map_cons, instL_eq bys r]
theorem formed_kid {k n np : Int} {args : List Lv} (h : (Lv.mk k n args).formed np = true) : ∀ x ∈ args, x.formed np = true := by
  rcases formed_num h with ⟨rfl, h0, h1, rfl⟩ | ⟨rfl, h0, h1, rfl⟩ | ⟨rfl, rfl, x, rfl, hx⟩ | ⟨hk, rfl, x, y, rfl, hx, hy⟩
  · simp
  · simp
  · simpa using hx
  · simp [hx, hy]
set_option maxHeartbeats 8000000 in
theorem inst_p (bys : List Lv) (hbys : ∀ b ∈ bys, b.nodes ≤ 2 ^ 40) : ∀ (fuel : Nat) (l : Lv), l.nodes ≤ fuel → l.nodes ≤ 2 ^ 40 → l.formed bys.length = true → PPure Try.prog F.level_inst [.ptr l.pv, lvs bys] (.agg (l.inst bys).pv) := by
  intro fuel
  induction fuel with
  | zero => intro l h; have := nodes_pos l; omega
  | succ fuel ih =>
    intro l hf hm hr
    refine pure_by is_level_inst (by simp) (by simp [PV.imm, pv_imm]) fun hb nx => ?_
    cases l with
    | mk k n args =>
    simp only [Lv.nodes] at hf hm
    by_cases hk2 : k = 2
    · subst hk2
      have hn : 0 ≤ n ∧ n < bys.length := by
        rcases formed_num hr with ⟨h, _⟩ | ⟨_, h0, h1, _⟩ | ⟨h, _⟩ | ⟨h, _⟩ <;> omega
      have hlt : n.toNat < bys.length := by omega
      have eg : bys[n.toNat]? = some bys[n.toNat] := List.getElem?_eq_getElem hlt
      have e : (Lv.mk 2 n args).inst bys = bys[n.toNat] := by simp [Lv.inst, List.getD, eg]
      have hn0 := hn.1
      rw [e]
      simp (maxSteps := 1000000) (disch := omega) only [go_sem, Nat.reduceAdd, Nat.reduceMul, Nat.reduceSub, Nat.reduceLeDiff, Nat.reduceEqDiff, Nat.reduceBEq, ↓reduceIte, reduceCtorEq, Int.reduceEq, Int.reduceLE, Int.reduceLT, Int.reduceAdd, Int.reduceSub, Int.reduceNeg, Int.reduceToNat, Int.reduceNe, Nat.reducePow, Nat.reduceShiftRight, Nat.reduceMod, mc_level_inst, Lv.pv, lvs, hn0, eg]
      refine call_pure (clone_p _ bys[n.toNat] (Nat.le_refl _) (hbys _ (List.getElem_mem _))) ?_
      simp (maxSteps := 1000000) (disch := omega) only [go_sem, Nat.reduceAdd, Nat.reduceMul, Nat.reduceSub, Nat.reduceLeDiff, Nat.reduceEqDiff, Nat.reduceBEq, ↓reduceIte, reduceCtorEq, Int.reduceEq, Int.reduceLE, Int.reduceLT, Int.reduceAdd, Int.reduceSub, Int.reduceNeg, Int.reduceToNat, Int.reduceNe, Nat.reducePow, Nat.reduceShiftRight, Nat.reduceMod]
      exact fin_ret (r0 := .agg bys[n.toNat].pv) 1 (by simp [resP, resPs, resP1, upd, loadP, pv_len, pv_take]) (.of_eq (frz_agg_pv 1 _ _))
    · have e : (Lv.mk k n args).inst bys = .mk k n (args.map (Lv.inst bys)) := by simp [Lv.inst, hk2, instL_eq]
      rw [e]
      by_cases h0 : args = []
      · subst h0
        simp (maxSteps := 1000000) (disch := omega) only [go_sem, Nat.reduceAdd, Nat.reduceMul, Nat.reduceSub, Nat.reduceLeDiff, Nat.reduceEqDiff, Nat.reduceBEq, ↓reduceIte, reduceCtorEq, Int.reduceEq, Int.reduceLE, Int.reduceLT, Int.reduceAdd, Int.reduceSub, Int.reduceNeg, Int.reduceToNat, Int.reduceNe, Nat.reducePow, Nat.reduceShiftRight, Nat.reduceMod, mc_level_inst, Lv.pv, lvs, hk2]
        refine c_rounds 1 ?_
        simp (maxSteps := 1000000) (disch := omega) only [go_sem, Nat.reduceAdd, Nat.reduceMul, Nat.reduceSub, Nat.reduceLeDiff, Nat.reduceEqDiff, Nat.reduceBEq, ↓reduceIte, reduceCtorEq, Int.reduceEq, Int.reduceLE, Int.reduceLT, Int.reduceAdd, Int.reduceSub, Int.reduceNeg, Int.reduceToNat, Int.reduceNe, Nat.reducePow, Nat.reduceShiftRight, Nat.reduceMod]
        exact fin_ret (r0 := .agg [.sc (.int .i64 k), .sc (.int .i64 n), .sc (.slice none 0 0)]) 1 (by simp [resP, resPs, resP1, upd, loadP]) (by simp only [frz, List.map_cons, List.map_nil, frz_sc]; exact .agg ⟨.refl _, .refl _, .nil 3, trivial⟩)
      · have hpos : 0 < args.length := List.length_pos_iff.2 h0
        have hlen : args.length ≤ nodesL args := by
          clear hf hm hb h0 hpos hr e
          induction args with
          | nil => simp
          | cons x r ihr => have := nodes_pos x; simp only [List.length_cons, nodesL]; omega
        have q1 : (0 : Int) < (args.length : Int) := by omega
        have q47 : (2 : Int) ^ 47 = 140737488355328 := by decide
        have q2 : (40 : Int) * (args.length : Int) ≤ 2 ^ 47 := by omega
        have q3 : (args.length : Int) ≤ 2 ^ 47 := by omega
        simp (maxSteps := 1000000) (disch := omega) only [go_sem, Nat.reduceAdd, Nat.reduceMul, Nat.reduceSub, Nat.reduceLeDiff, Nat.reduceEqDiff, Nat.reduceBEq, ↓reduceIte, reduceCtorEq, Int.reduceEq, Int.reduceLE, Int.reduceLT, Int.reduceAdd, Int.reduceSub, Int.reduceNeg, Int.reduceToNat, Int.reduceNe, Nat.reducePow, Nat.reduceShiftRight, Nat.reduceMod, mc_level_inst, Lv.pv, lvs, hk2, q1, q2, q3]
        refine c_loop (fun j s => ∃ i a b c : Nat, ∃ oc : PObj, j = args.length - i ∧ i ≤ args.length ∧ a ≠ b ∧ b ≠ a ∧ c ≠ a ∧ c ≠ b ∧ a ≠ c ∧ b ≠ c ∧ oc.cells.length = 3 ∧ s.s 4 = .optr c 0 ∧ s.H c = some oc ∧ s.s 0 = .ptr (Lv.mk k n args).pv ∧ s.s 5 = .optr a 0 ∧ s.s 1 = lvs bys ∧ s.s 45 = .sc (.int .i64 args.length) ∧ s.s 46 = .sc (.int .i64 i) ∧
          s.H a = some ⟨[.sc (.int .i64 k), .sc (.int .i64 n), .osl b 0 args.length 3], true⟩ ∧ s.H b = some ⟨halfL ((args.take i).map (Lv.inst bys)) (args.length - i), true⟩) _ ⟨0, nx + 15, nx + 28, nx, ⟨[.sc (.int .i64 0), .sc (.int .i64 0), .sc (.slice none 0 0)], true⟩, rfl, by omega, by omega, by omega, by omega, by omega, by omega, by omega, rfl, by simp only [go_sem, Nat.reduceAdd, Nat.reduceMul, Nat.reduceSub, Nat.reduceLeDiff, Nat.reduceEqDiff, Nat.reduceBEq, ↓reduceIte, reduceCtorEq, Int.reduceEq, Int.reduceLE, Int.reduceLT, Int.reduceAdd, Int.reduceSub, Int.reduceNeg, Int.reduceToNat, Int.reduceNe, Nat.reducePow, Nat.reduceShiftRight, Nat.reduceMod], by simp (disch := omega) only [go_sem, Nat.reduceAdd, Nat.reduceMul, Nat.reduceSub, Nat.reduceLeDiff, Nat.reduceEqDiff, Nat.reduceBEq, ↓reduceIte, reduceCtorEq, Int.reduceEq, Int.reduceLE, Int.reduceLT, Int.reduceAdd, Int.reduceSub, Int.reduceNeg, Int.reduceToNat, Int.reduceNe, Nat.reducePow, Nat.reduceShiftRight, Nat.reduceMod], by simp [upd, sigF, sig_eq, Lv.pv], by simp only [go_sem, Nat.reduceAdd, Nat.reduceMul, Nat.reduceSub, Nat.reduceLeDiff, Nat.reduceEqDiff, Nat.reduceBEq, ↓reduceIte, reduceCtorEq, Int.reduceEq, Int.reduceLE, Int.reduceLT, Int.reduceAdd, Int.reduceSub, Int.reduceNeg, Int.reduceToNat, Int.reduceNe, Nat.reducePow, Nat.reduceShiftRight, Nat.reduceMod], by simp only [go_sem, Nat.reduceAdd, Nat.reduceMul, Nat.reduceSub, Nat.reduceLeDiff, Nat.reduceEqDiff, Nat.reduceBEq, ↓reduceIte, reduceCtorEq, Int.reduceEq, Int.reduceLE, Int.reduceLT, Int.reduceAdd, Int.reduceSub, Int.reduceNeg, Int.reduceToNat, Int.reduceNe, Nat.reducePow, Nat.reduceShiftRight, Nat.reduceMod]; rfl, by simp only [go_sem, Nat.reduceAdd, Nat.reduceMul, Nat.reduceSub, Nat.reduceLeDiff, Nat.reduceEqDiff, Nat.reduceBEq, ↓reduceIte, reduceCtorEq, Int.reduceEq, Int.reduceLE, Int.reduceLT, Int.reduceAdd, Int.reduceSub, Int.reduceNeg, Int.reduceToNat, Int.reduceNe, Nat.reducePow, Nat.reduceShiftRight, Nat.reduceMod], by simp only [go_sem, Nat.reduceAdd, Nat.reduceMul, Nat.reduceSub, Nat.reduceLeDiff, Nat.reduceEqDiff, Nat.reduceBEq, ↓reduceIte, reduceCtorEq, Int.reduceEq, Int.reduceLE, Int.reduceLT, Int.reduceAdd, Int.reduceSub, Int.reduceNeg, Int.reduceToNat, Int.reduceNe, Nat.reducePow, Nat.reduceShiftRight, Nat.reduceMod, Int.ofNat_zero], by simp only [go_sem, Nat.reduceAdd, Nat.reduceMul, Nat.reduceSub, Nat.reduceLeDiff, Nat.reduceEqDiff, Nat.reduceBEq, ↓reduceIte, reduceCtorEq, Int.reduceEq, Int.reduceLE, Int.reduceLT, Int.reduceAdd, Int.reduceSub, Int.reduceNeg, Int.reduceToNat, Int.reduceNe, Nat.reducePow, Nat.reduceShiftRight, Nat.reduceMod], by simp only [go_sem, Nat.reduceAdd, Nat.reduceMul, Nat.reduceSub, Nat.reduceLeDiff, Nat.reduceEqDiff, Nat.reduceBEq, ↓reduceIte, reduceCtorEq, Int.reduceEq, Int.reduceLE, Int.reduceLT, Int.reduceAdd, Int.reduceSub, Int.reduceNeg, Int.reduceToNat, Int.reduceNe, Nat.reducePow, Nat.reduceShiftRight, Nat.reduceMod]; rfl⟩ ?_
        rintro _ s ⟨i, a, b, c, oc, rfl, hi, hab, hba, hca, hcb, hac, hbc, hoc, e4, hc, e0, e5, e1, e45, e46, ha, hbk⟩
        by_cases hlt : i < args.length
        · have eg : args[i]? = some args[i] := List.getElem?_eq_getElem hlt
          have hfit : i * 3 + 3 ≤ i * 3 + (args.length - i) * 3 := by omega
          have htl : ((args.take i).map (Lv.inst bys)).length = i := by simp; omega
          simp (maxSteps := 1000000) (disch := omega) only [go_sem, Nat.reduceAdd, Nat.reduceMul, Nat.reduceSub, Nat.reduceLeDiff, Nat.reduceEqDiff, Nat.reduceBEq, ↓reduceIte, reduceCtorEq, Int.reduceEq, Int.reduceLE, Int.reduceLT, Int.reduceAdd, Int.reduceSub, Int.reduceNeg, Int.reduceToNat, Int.reduceNe, Nat.reducePow, Nat.reduceShiftRight, Nat.reduceMod, hlt, Lv.pv, hk2, e0, e5, e1, e45, e46, ha, hbk, hab, hba, e4, hc, hoc, hca, hcb, hac, hbc, eg]
          refine call_pure (ih args[i] (by have := nodesL_mem args i hlt; omega) (by have := nodesL_mem args i hlt; omega) (formed_kid hr _ (List.getElem_mem hlt))) ?_
          simp (maxSteps := 1000000) (disch := omega) only [go_sem, Nat.reduceAdd, Nat.reduceMul, Nat.reduceSub, Nat.reduceLeDiff, Nat.reduceEqDiff, Nat.reduceBEq, ↓reduceIte, reduceCtorEq, Int.reduceEq, Int.reduceLE, Int.reduceLT, Int.reduceAdd, Int.reduceSub, Int.reduceNeg, Int.reduceToNat, Int.reduceNe, Nat.reducePow, Nat.reduceShiftRight, Nat.reduceMod, hlt, Lv.pv, hk2, e0, e5, e1, e45, e46, ha, hbk, hab, hba, e4, hc, hoc, hca, hcb, hac, hbc, eg, pv_one, half_len, htl, hfit]
          refine ⟨args.length - (i + 1), by omega, i + 1, a, b, c, oc, rfl, by omega, hab, hba, hca, hcb, hac, hbc, hoc, rfl, ?_, rfl, by simp, ?_, ?_⟩
          · rw [if_neg hcb]; exact hc
          · rw [if_neg hab]; exact ha
          · have et : (args.take (i + 1)).map (Lv.inst bys) = (args.take i).map (Lv.inst bys) ++ [args[i].inst bys] := by rw [List.take_add_one, eg, Option.toList_some, List.map_append]; rfl
            rw [if_pos rfl, half_set' ((args.take i).map (Lv.inst bys)) i args.length (args[i].inst bys) hlt htl, et]
        · have hj : i = args.length := by omega
          subst hj
          simp (maxSteps := 1000000) (disch := omega) only [go_sem, Nat.reduceAdd, Nat.reduceMul, Nat.reduceSub, Nat.reduceLeDiff, Nat.reduceEqDiff, Nat.reduceBEq, ↓reduceIte, reduceCtorEq, Int.reduceEq, Int.reduceLE, Int.reduceLT, Int.reduceAdd, Int.reduceSub, Int.reduceNeg, Int.reduceToNat, Int.reduceNe, Nat.reducePow, Nat.reduceShiftRight, Nat.reduceMod, hlt, Lv.pv, hk2, e0, e5, e1, e45, e46, ha, hbk, hab, hba, e4, hc, hoc, hca, hcb, hac, hbc]
          have hbk2 : s.H b = some ⟨halfL (args.map (Lv.inst bys)) 0, true⟩ := by rw [hbk, List.take_length, Nat.sub_self]
          have hfl := half_len (args.map (Lv.inst bys)) 0
          simp only [Nat.zero_mul, Nat.add_zero, List.length_map] at hfl
          refine fin_ret (r0 := .agg [.sc (.int .i64 k), .sc (.int .i64 n), .osl b 0 args.length 3]) 2 (by simp [resP, resPs, resP1, upd, loadP, e4]) (.of_eq ?_)
          have hch : chunks 3 args.length (halfL (args.map (Lv.inst bys)) 0) = (args.map (Lv.inst bys)).map Lv.pv := by simpa [frz] using half_chunks noneOwn 0 (args.map (Lv.inst bys))
          have htk : (halfL (args.map (Lv.inst bys)) 0).take (args.length * 3) = halfL (args.map (Lv.inst bys)) 0 := List.take_of_length_le (by omega)
          simp only [frz, List.map_cons, List.map_nil, hbk2, hab, hba, hbc, upd_get, if_false, List.drop_zero, hfl, Nat.zero_add, Nat.le_refl, if_true, htk]
          rw [List.map_id', hch]
def Lv.instR (l : Lv) (bys : List Lv) : Option Lv :=
  if l.right bys.length = true ∧ (bys.all fun b => b.right 4) = true ∧ (l.inst bys).nodes ≤ 64 then some (l.inst bys) else none
def instPV : Option Lv → PV
  | some l => .tup [.agg l.pv, .sc (.bool true)]
  | none => .tup [.agg [.sc (.int .i64 0), .sc (.int .i64 0), .sc (.slice none 0 0)], .sc (.bool false)]
theorem frz_tup (k : Nat) (H : Nat → Option PObj) (l : Lv) (b : Bool) : frz (k + 1) H (.tup [.agg l.pv, .sc (.bool b)]) = .tup [.agg l.pv, .sc (.bool b)] := by
  simp only [frz, List.map_cons, List.map_nil, frz_agg_pv, frz_sc]
theorem frz_tup0 (k : Nat) (H : Nat → Option PObj) : frz (k + 2) H (instPV none) = instPV none := by
  simp only [instPV, frz, List.map_cons, List.map_nil, frz_sc]
set_option maxHeartbeats 8000000 in
theorem Inst_p (l : Lv) (bys : List Lv) : PPure Try.prog F.level_Inst [.agg l.pv, lvs bys] (instPV (l.instR bys)) := by
  refine pure_by is_level_Inst (by simp) (by unfold instPV; split <;> simp [PV.imm, immL, pv_imm]) fun hb nx => ?_
  simp (maxSteps := 1000000) (disch := omega) only [go_sem, Nat.reduceAdd, Nat.reduceMul, Nat.reduceSub, Nat.reduceLeDiff, Nat.reduceEqDiff, Nat.reduceBEq, ↓reduceIte, reduceCtorEq, Int.reduceEq, Int.reduceLE, Int.reduceLT, Int.reduceAdd, Int.reduceSub, Int.reduceNeg, Int.reduceToNat, Int.reduceNe, Nat.reducePow, Nat.reduceShiftRight, Nat.reduceMod, mc_level_Inst, lvs]
  refine call_pure (Right_p l bys.length) ?_
  cases hr : l.right bys.length
  · have e : l.instR bys = none := by simp [Lv.instR, hr]
    rw [e]
    simp (maxSteps := 1000000) (disch := omega) only [go_sem, Nat.reduceAdd, Nat.reduceMul, Nat.reduceSub, Nat.reduceLeDiff, Nat.reduceEqDiff, Nat.reduceBEq, ↓reduceIte, reduceCtorEq, Int.reduceEq, Int.reduceLE, Int.reduceLT, Int.reduceAdd, Int.reduceSub, Int.reduceNeg, Int.reduceToNat, Int.reduceNe, Nat.reducePow, Nat.reduceShiftRight, Nat.reduceMod]
    exact fin_ret (r0 := instPV none) 2 (by simp [resP, resPs, resP1, upd, loadP, instPV]) (.of_eq (frz_tup0 0 _))
  · obtain ⟨_, hb4, hn, hf⟩ := right_parts hr
    simp (maxSteps := 1000000) (disch := omega) only [go_sem, Nat.reduceAdd, Nat.reduceMul, Nat.reduceSub, Nat.reduceLeDiff, Nat.reduceEqDiff, Nat.reduceBEq, ↓reduceIte, reduceCtorEq, Int.reduceEq, Int.reduceLE, Int.reduceLT, Int.reduceAdd, Int.reduceSub, Int.reduceNeg, Int.reduceToNat, Int.reduceNe, Nat.reducePow, Nat.reduceShiftRight, Nat.reduceMod]
    refine c_loop (fun j s => ∃ i c : Nat, ∃ oc : PObj, j = bys.length - i ∧ i ≤ bys.length ∧ ((bys.take i).all fun b => b.right 4) = true ∧ s.s 1 = lvs bys ∧ s.s 2 = .ptr l.pv ∧ s.s 4 = .optr c 0 ∧ s.s 15 = lvs bys ∧ s.s 16 = .sc (.int .i64 bys.length) ∧ s.s 17 = .sc (.int .i64 i) ∧ s.H c = some oc ∧ oc.cells.length = 3 ∧ c < s.nx) bys.length ?_ ?_
    · exact ⟨0, nx + 1, ⟨[.sc (.int .i64 0), .sc (.int .i64 0), .sc (.slice none 0 0)], true⟩, by omega, by omega, by simp, by simp only [go_sem, Nat.reduceAdd, Nat.reduceMul, Nat.reduceSub, Nat.reduceLeDiff, Nat.reduceEqDiff, Nat.reduceBEq, ↓reduceIte, reduceCtorEq, Int.reduceEq, Int.reduceLE, Int.reduceLT, Int.reduceAdd, Int.reduceSub, Int.reduceNeg, Int.reduceToNat, Int.reduceNe, Nat.reducePow, Nat.reduceShiftRight, Nat.reduceMod]; simp [sigF, lvs], by simp only [go_sem, Nat.reduceAdd, Nat.reduceMul, Nat.reduceSub, Nat.reduceLeDiff, Nat.reduceEqDiff, Nat.reduceBEq, ↓reduceIte, reduceCtorEq, Int.reduceEq, Int.reduceLE, Int.reduceLT, Int.reduceAdd, Int.reduceSub, Int.reduceNeg, Int.reduceToNat, Int.reduceNe, Nat.reducePow, Nat.reduceShiftRight, Nat.reduceMod], by simp only [go_sem, Nat.reduceAdd, Nat.reduceMul, Nat.reduceSub, Nat.reduceLeDiff, Nat.reduceEqDiff, Nat.reduceBEq, ↓reduceIte, reduceCtorEq, Int.reduceEq, Int.reduceLE, Int.reduceLT, Int.reduceAdd, Int.reduceSub, Int.reduceNeg, Int.reduceToNat, Int.reduceNe, Nat.reducePow, Nat.reduceShiftRight, Nat.reduceMod], by simp only [go_sem, Nat.reduceAdd, Nat.reduceMul, Nat.reduceSub, Nat.reduceLeDiff, Nat.reduceEqDiff, Nat.reduceBEq, ↓reduceIte, reduceCtorEq, Int.reduceEq, Int.reduceLE, Int.reduceLT, Int.reduceAdd, Int.reduceSub, Int.reduceNeg, Int.reduceToNat, Int.reduceNe, Nat.reducePow, Nat.reduceShiftRight, Nat.reduceMod]; rfl, by simp only [go_sem, Nat.reduceAdd, Nat.reduceMul, Nat.reduceSub, Nat.reduceLeDiff, Nat.reduceEqDiff, Nat.reduceBEq, ↓reduceIte, reduceCtorEq, Int.reduceEq, Int.reduceLE, Int.reduceLT, Int.reduceAdd, Int.reduceSub, Int.reduceNeg, Int.reduceToNat, Int.reduceNe, Nat.reducePow, Nat.reduceShiftRight, Nat.reduceMod], by simp only [go_sem, Nat.reduceAdd, Nat.reduceMul, Nat.reduceSub, Nat.reduceLeDiff, Nat.reduceEqDiff, Nat.reduceBEq, ↓reduceIte, reduceCtorEq, Int.reduceEq, Int.reduceLE, Int.reduceLT, Int.reduceAdd, Int.reduceSub, Int.reduceNeg, Int.reduceToNat, Int.reduceNe, Nat.reducePow, Nat.reduceShiftRight, Nat.reduceMod, Int.ofNat_zero], by simp (disch := omega) only [go_sem, Nat.reduceAdd, Nat.reduceMul, Nat.reduceSub, Nat.reduceLeDiff, Nat.reduceEqDiff, Nat.reduceBEq, ↓reduceIte, reduceCtorEq, Int.reduceEq, Int.reduceLE, Int.reduceLT, Int.reduceAdd, Int.reduceSub, Int.reduceNeg, Int.reduceToNat, Int.reduceNe, Nat.reducePow, Nat.reduceShiftRight, Nat.reduceMod], rfl, by simp only [go_sem, Nat.reduceAdd, Nat.reduceMul, Nat.reduceSub, Nat.reduceLeDiff, Nat.reduceEqDiff, Nat.reduceBEq, ↓reduceIte, reduceCtorEq, Int.reduceEq, Int.reduceLE, Int.reduceLT, Int.reduceAdd, Int.reduceSub, Int.reduceNeg, Int.reduceToNat, Int.reduceNe, Nat.reducePow, Nat.reduceShiftRight, Nat.reduceMod]; omega⟩
    · rintro _ s ⟨i, c, oc, rfl, hi, hall, e1, e2, e4, e15, e16, e17, hc, hoc, hcn⟩
      have hne : ∀ k, (c = s.nx + k) = False := fun k => by simp; omega
      have hne' : ∀ k, (s.nx + k = c) = False := fun k => by simp; omega
      have hn0 : (c = s.nx) = False := by simp; omega
      have hn0' : (s.nx = c) = False := by simp; omega
      by_cases hlt : i < bys.length
      · have eg : bys[i]? = some bys[i] := List.getElem?_eq_getElem hlt
        simp (maxSteps := 1000000) (disch := omega) only [go_sem, Nat.reduceAdd, Nat.reduceMul, Nat.reduceSub, Nat.reduceLeDiff, Nat.reduceEqDiff, Nat.reduceBEq, ↓reduceIte, reduceCtorEq, Int.reduceEq, Int.reduceLE, Int.reduceLT, Int.reduceAdd, Int.reduceSub, Int.reduceNeg, Int.reduceToNat, Int.reduceNe, Nat.reducePow, Nat.reduceShiftRight, Nat.reduceMod, hlt, lvs, e1, e2, e4, e15, e16, e17, hc, hoc, eg, hne, hne', hn0, hn0']
        refine call_pure (Right_p bys[i] 4) ?_
        cases hq : bys[i].right 4
        · have e : l.instR bys = none := by
            have : (bys.all fun b => b.right 4) = false := by
              rw [List.all_eq_false]
              exact ⟨bys[i], List.getElem_mem hlt, by simp [hq]⟩
            simp [Lv.instR, this]
          rw [e]
          simp (maxSteps := 1000000) (disch := omega) only [go_sem, Nat.reduceAdd, Nat.reduceMul, Nat.reduceSub, Nat.reduceLeDiff, Nat.reduceEqDiff, Nat.reduceBEq, ↓reduceIte, reduceCtorEq, Int.reduceEq, Int.reduceLE, Int.reduceLT, Int.reduceAdd, Int.reduceSub, Int.reduceNeg, Int.reduceToNat, Int.reduceNe, Nat.reducePow, Nat.reduceShiftRight, Nat.reduceMod, hlt, lvs, e1, e2, e4, e15, e16, e17, hc, hoc, eg, hne, hne', hn0, hn0']
          exact fin_ret (r0 := instPV none) 2 (by simp [resP, resPs, resP1, upd, loadP, instPV, e4]) (.of_eq (frz_tup0 0 _))
        · simp (maxSteps := 1000000) (disch := omega) only [go_sem, Nat.reduceAdd, Nat.reduceMul, Nat.reduceSub, Nat.reduceLeDiff, Nat.reduceEqDiff, Nat.reduceBEq, ↓reduceIte, reduceCtorEq, Int.reduceEq, Int.reduceLE, Int.reduceLT, Int.reduceAdd, Int.reduceSub, Int.reduceNeg, Int.reduceToNat, Int.reduceNe, Nat.reducePow, Nat.reduceShiftRight, Nat.reduceMod, hlt, lvs, e1, e2, e4, e15, e16, e17, hc, hoc, eg, hne, hne', hn0, hn0']
          refine ⟨bys.length - (i + 1), by omega, i + 1, c, oc, rfl, by omega, ?_, ?_⟩
          · rw [List.take_add_one, eg, Option.toList_some, List.all_append, hall]
            simp [hq]
          · exact ⟨rfl, by simp, by simp only [hne, if_false]; exact hc, hoc, by omega⟩
      · have hj : i = bys.length := by omega
        subst hj
        rw [List.take_length] at hall
        have hbn : ∀ b ∈ bys, b.nodes ≤ 2 ^ 40 := fun b hb => by
          have := (right_parts (List.all_eq_true.1 hall b hb)).2.2.1
          omega
        simp (maxSteps := 1000000) (disch := omega) only [go_sem, Nat.reduceAdd, Nat.reduceMul, Nat.reduceSub, Nat.reduceLeDiff, Nat.reduceEqDiff, Nat.reduceBEq, ↓reduceIte, reduceCtorEq, Int.reduceEq, Int.reduceLE, Int.reduceLT, Int.reduceAdd, Int.reduceSub, Int.reduceNeg, Int.reduceToNat, Int.reduceNe, Nat.reducePow, Nat.reduceShiftRight, Nat.reduceMod, hlt, lvs, e1, e2, e4, e15, e16, e17, hc, hoc, hne, hne', hn0, hn0']
        refine call_pure (inst_p bys hbn l.nodes l (Nat.le_refl _) (by omega) hf) ?_
        simp (maxSteps := 1000000) (disch := omega) only [go_sem, Nat.reduceAdd, Nat.reduceMul, Nat.reduceSub, Nat.reduceLeDiff, Nat.reduceEqDiff, Nat.reduceBEq, ↓reduceIte, reduceCtorEq, Int.reduceEq, Int.reduceLE, Int.reduceLT, Int.reduceAdd, Int.reduceSub, Int.reduceNeg, Int.reduceToNat, Int.reduceNe, Nat.reducePow, Nat.reduceShiftRight, Nat.reduceMod, hlt, lvs, e1, e2, e4, e15, e16, e17, hc, hoc, hne, hne', hn0, hn0']
        refine call_pure (Nodes_p (l.inst bys)) ?_
        by_cases hnn : (l.inst bys).nodes ≤ 64
        · have hq : ¬ (64 : Int) < ((min (l.inst bys).nodes 65 : Nat) : Int) := by omega
          have e : l.instR bys = some (l.inst bys) := by simp only [Lv.instR, hr, hall, hnn, and_self, if_true]
          rw [e]
          simp (maxSteps := 1000000) (disch := omega) only [go_sem, Nat.reduceAdd, Nat.reduceMul, Nat.reduceSub, Nat.reduceLeDiff, Nat.reduceEqDiff, Nat.reduceBEq, ↓reduceIte, reduceCtorEq, Int.reduceEq, Int.reduceLE, Int.reduceLT, Int.reduceAdd, Int.reduceSub, Int.reduceNeg, Int.reduceToNat, Int.reduceNe, Nat.reducePow, Nat.reduceShiftRight, Nat.reduceMod, hlt, lvs, e1, e2, e4, e15, e16, e17, hc, hoc, hne, hne', hn0, hn0', hq]
          exact fin_ret (r0 := .tup [.agg (l.inst bys).pv, .sc (.bool true)]) 1 (by simp [resP, resPs, resP1, upd, loadP, pv_len, e4, pv_take_app]) (.of_eq (frz_tup 0 _ _ _))
        · have hq : (64 : Int) < ((min (l.inst bys).nodes 65 : Nat) : Int) := by omega
          have e : l.instR bys = none := by simp [Lv.instR, hnn]
          rw [e]
          simp (maxSteps := 1000000) (disch := omega) only [go_sem, Nat.reduceAdd, Nat.reduceMul, Nat.reduceSub, Nat.reduceLeDiff, Nat.reduceEqDiff, Nat.reduceBEq, ↓reduceIte, reduceCtorEq, Int.reduceEq, Int.reduceLE, Int.reduceLT, Int.reduceAdd, Int.reduceSub, Int.reduceNeg, Int.reduceToNat, Int.reduceNe, Nat.reducePow, Nat.reduceShiftRight, Nat.reduceMod, hlt, lvs, e1, e2, e4, e15, e16, e17, hc, hoc, hne, hne', hn0, hn0', hq]
          exact fin_ret (r0 := instPV none) 2 (by simp [resP, resPs, resP1, upd, loadP, instPV, e4]) (.of_eq (frz_tup0 0 _))
end
section
def tt (a x : Int) : Int := if a = -1 then 0 else a + x
def Fm.ev (f : Fm) (x0 x1 x2 x3 : Int) : Int := Max.max (Max.max (Max.max (Max.max f.num (tt f.a0 x0)) (tt f.a1 x1)) (tt f.a2 x2)) (tt f.a3 x3)
structure Fm.Min (f : Fm) : Prop where
  n0 : 0 ≤ f.num
  b0 : -1 ≤ f.a0
  b1 : -1 ≤ f.a1
  b2 : -1 ≤ f.a2
  b3 : -1 ≤ f.a3
theorem Fm.Ok.min {f : Fm} {m : Int} (h : f.Ok m) : f.Min := ⟨h.n0, h.b0, h.b1, h.b2, h.b3⟩
def s3 (i : Nat) : Int := if i = 0 then 0 else if i = 1 then 1 else 1000
end
section
set_option maxRecDepth 20000
attribute [local go_sem] pv_len pv_take id_ne id_ne' id_ne2 List.append_assoc Nat.add_assoc pv_one
theorem len_nodesL : ∀ ls : List Lv, ls.length ≤ nodesL ls
  | [] => Nat.le_refl _
  | x :: r => by have := len_nodesL r; have := nodes_pos x; simp only [List.length_cons, nodesL]; omega
mutual
def Lv.same : Lv → Lv → Bool
  | .mk k n xs, .mk k' n' ys => decide (k = k') && (decide (n = n') && (decide (xs.length = ys.length) && sameL xs ys))
def sameL : List Lv → List Lv → Bool
  | x :: xs, y :: ys => x.same y && sameL xs ys
  | _, _ => true
end
mutual
theorem same_iff_eq : ∀ a b : Lv, a.same b = true ↔ a = b
  | .mk k n xs, .mk k' n' ys => by
    simp only [Lv.same, Bool.and_eq_true, decide_eq_true_eq, Lv.mk.injEq]
    constructor
    · rintro ⟨h1, h2, h3, h4⟩
      exact ⟨h1, h2, (sameL_iff xs ys h3).1 h4⟩
    · rintro ⟨h1, h2, h3⟩
      exact ⟨h1, h2, by rw [h3], (sameL_iff xs ys (by rw [h3])).2 h3⟩
theorem sameL_iff : ∀ xs ys : List Lv, xs.length = ys.length → (sameL xs ys = true ↔ xs = ys)
  | [], [], _ => by simp [sameL]
  | x :: xs, y :: ys, h => by
    simp only [sameL, Bool.and_eq_true, List.cons.injEq]
    rw [same_iff_eq x y, sameL_iff xs ys (by simpa using h)]
  | [], y :: ys, h => by simp at h
  | x :: xs, [], h => by simp at h
end
theorem sameL_take : ∀ (xs ys : List Lv) (i : Nat) (h : i < xs.length) (h2 : i < ys.length), sameL (xs.take (i + 1)) (ys.take (i + 1)) = (sameL (xs.take i) (ys.take i) && xs[i].same ys[i])
  | x :: xs, y :: ys, 0, h, h2 => by simp [sameL]
  | x :: xs, y :: ys, i + 1, h, h2 => by
    have := sameL_take xs ys i (by simpa using h) (by simpa using h2)
    simp only [List.take_succ_cons, sameL, List.getElem_cons_succ, this, Bool.and_assoc]
theorem sameL_false : ∀ (xs ys : List Lv) (i : Nat) (h : i < xs.length) (h2 : i < ys.length), xs[i].same ys[i] = false → sameL xs ys = false
  | x :: xs, y :: ys, 0, h, h2, e => by simp at e; simp [sameL, e]
  | x :: xs, y :: ys, i + 1, h, h2, e => by
    have := sameL_false xs ys i (by simpa using h) (by simpa using h2) (by simpa using e)
    simp [sameL, this]
end
section
set_option maxRecDepth 20000
attribute [local go_sem] pv_len pv_take id_ne id_ne' id_ne2 List.append_assoc Nat.add_assoc pv_one
mutual
def Lv.grown (bys : List Lv) : Lv → Nat
  | .mk k n args => if k = 2 then min (bys.getD n.toNat (.mk 1 0 [])).nodes 65 else 1 + grownL bys args
def grownL (bys : List Lv) : List Lv → Nat
  | [] => 0
  | x :: r => x.grown bys + grownL bys r
end
theorem par_of {np n : Int} {args : List Lv} (h : (Lv.mk 2 n args).formed np = true) : 0 ≤ n ∧ n < np ∧ args = [] := by
  rcases formed_num h with ⟨h1, _⟩ | ⟨_, h1, h2, h3⟩ | ⟨h1, _⟩ | ⟨h1, _⟩
  · omega
  · exact ⟨h1, h2, h3⟩
  · omega
  · omega
def Lv.instV (l : Lv) (bys : List Lv) : Option Lv :=
  if (l.right bys.length && (bys.all (Lv.right 4) && decide (l.grown bys ≤ 64))) = true then some (l.inst bys) else none
end
section
set_option maxRecDepth 20000
attribute [local go_sem] pv_len pv_take Nat.add_assoc tm_len tm_take pv_one id_ne id_ne' id_ne2
mutual
def Tm.nodes : Tm → Nat
  | .mk _ _ _ ls args => 1 + (nodesL ls + nodesT args)
def nodesT : List Tm → Nat
  | [] => 0
  | x :: r => x.nodes + nodesT r
end
theorem nodesT_take_succ : ∀ (ts : List Tm) (k : Nat) (h : k < ts.length), nodesT (ts.take (k + 1)) = nodesT (ts.take k) + ts[k].nodes
  | x :: r, 0, h => by simp [nodesT]
  | x :: r, k + 1, h => by
    have := nodesT_take_succ r k (by simpa using h)
    simp only [List.take_succ_cons, nodesT, List.getElem_cons_succ, this]
    omega
theorem nodesT_append : ∀ a b : List Tm, nodesT (a ++ b) = nodesT a + nodesT b
  | [], b => by simp [nodesT]
  | x :: r, b => by simp only [List.cons_append, nodesT, nodesT_append r b]; omega
theorem nodesT_take_le (ts : List Tm) (k : Nat) : nodesT (ts.take k) ≤ nodesT ts := by
  have h := nodesT_append (ts.take k) (ts.drop k)
  rw [List.take_append_drop] at h
  omega
theorem nodesT_mem (ts : List Tm) (k : Nat) (h : k < ts.length) : ts[k].nodes ≤ nodesT ts := by
  have h1 := nodesT_take_succ ts k h
  have h2 := nodesT_take_le ts (k + 1)
  omega
theorem tnodes_pos (t : Tm) : 0 < t.nodes := by cases t; simp only [Tm.nodes]; omega
mutual
theorem size_nodes : ∀ t : Tm, t.size ≤ t.nodes
  | .mk k n s ls args => by have := sizeL_nodes args; simp only [Tm.size, Tm.nodes]; omega
theorem sizeL_nodes : ∀ ts : List Tm, sizeL ts ≤ nodesT ts
  | [] => Nat.le_refl _
  | x :: r => by have := size_nodes x; have := sizeL_nodes r; simp only [sizeL, nodesT]; omega
end
end
section
set_option maxRecDepth 20000
attribute [local go_sem] pv_len pv_take id_ne id_ne' id_ne2 List.append_assoc Nat.add_assoc pv_one
def slB (f : Bool) (sz : Nat) (es : List (List PV)) : PV := if f = true then .fsl sz es else .sl sz es
def Lv.pvB (f : Bool) : Lv → List PV
  | .mk k n args => [.sc (.int .i64 k), .sc (.int .i64 n), slB f 3 (args.map (Lv.pvB f))]
theorem pvB_len (f : Bool) (l : Lv) : (l.pvB f).length = 3 := by cases l; simp [Lv.pvB]
attribute [local go_sem] pvB_len
theorem pvB_take (f : Bool) (l : Lv) : (l.pvB f).take 3 = l.pvB f := List.take_of_length_le (by rw [pvB_len]; omega)
attribute [local go_sem] pvB_take
theorem slB_one (f : Bool) (sz : Nat) (es : List (List PV)) : (slB f sz es).one = true := by cases f <;> rfl
theorem pvB_one (f : Bool) (l : Lv) : (l.pvB f).all PV.one = true := by
  cases l
  simp only [Lv.pvB, List.all_cons, slB_one, List.all_nil, Bool.and_true]
  rfl
attribute [local go_sem] pvB_one
theorem slB_weak (f : Bool) (sz : Nat) (es : List (List PV)) : Weak (slB f sz es) (.sl sz es) := by
  cases f
  · exact .refl _
  · exact Weak.fsl sz es
theorem WeakL.append : ∀ {a b c d : List PV}, WeakL a b → WeakL c d → WeakL (a ++ c) (b ++ d)
  | [], [], _, _, _, h => h
  | _ :: _, _ :: _, _, _, h, h2 => ⟨h.1, WeakL.append h.2 h2⟩
  | [], _ :: _, _, _, h, _ => h.elim
  | _ :: _, [], _, _, h, _ => h.elim
theorem WeakL.rows {α : Type} {f g : α → List PV} : ∀ (xs : List α), (∀ x ∈ xs, WeakL (f x) (g x)) → WeakL (xs.map f).flatten (xs.map g).flatten
  | [], _ => trivial
  | x :: r, h => by
    simp only [List.map_cons, List.flatten_cons]
    exact (h x (by simp)).append (WeakL.rows r fun y hy => h y (by simp [hy]))
theorem slB_rows {α : Type} {f g : α → List PV} (b : Bool) {sz : Nat} (hg : ∀ x, (g x).length = sz) (xs : List α) (h : ∀ x ∈ xs, WeakL (f x) (g x)) : Weak (slB b sz (xs.map f)) (.sl sz (xs.map g)) := by
  refine (slB_weak b sz _).trans (Weak.sl (by simp) (fun e he => ?_) (WeakL.rows xs h))
  obtain ⟨x, _, rfl⟩ := List.mem_map.1 he
  exact hg x
theorem lv_weak (f : Bool) : ∀ (fuel : Nat) (l : Lv), l.nodes ≤ fuel → WeakL (l.pvB f) l.pv := by
  intro fuel
  induction fuel with
  | zero => intro l h; have := nodes_pos l; omega
  | succ fuel ih =>
    intro l h
    cases l with
    | mk k n args =>
    simp only [Lv.nodes] at h
    simp only [Lv.pvB, Lv.pv]
    refine ⟨.refl _, .refl _, slB_rows f pv_len args fun x hx => ih x ?_, trivial⟩
    obtain ⟨i, hi, rfl⟩ := List.getElem_of_mem hx
    have := nodesL_mem args i hi
    omega
theorem lv_weak' (f : Bool) (l : Lv) : WeakL (l.pvB f) l.pv := lv_weak f l.nodes l (Nat.le_refl _)
theorem lvs_weak (f : Bool) (ls : List Lv) : Weak (slB f 3 (ls.map (Lv.pvB f))) (.sl 3 (ls.map Lv.pv)) := slB_rows f pv_len ls fun x _ => lv_weak' f x
theorem imm_rows {α : Type} {f : α → List PV} : ∀ (xs : List α), (∀ x ∈ xs, immL (f x) = true) → immL (xs.map f).flatten = true
  | [], _ => rfl
  | x :: r, h => by simp only [List.map_cons, List.flatten_cons, immL_append, h x (by simp), imm_rows r fun y hy => h y (by simp [hy])]; rfl
theorem slB_imm (f : Bool) (sz : Nat) (es : List (List PV)) : (slB f sz es).imm = immL es.flatten := by cases f <;> simp [slB, PV.imm, immLL_flatten]
theorem pvB_imm' (f : Bool) : ∀ (fuel : Nat) (l : Lv), l.nodes ≤ fuel → immL (l.pvB f) = true := by
  intro fuel
  induction fuel with
  | zero => intro l h; have := nodes_pos l; omega
  | succ fuel ih =>
    intro l h
    cases l with
    | mk k n args =>
    simp only [Lv.nodes] at h
    simp only [Lv.pvB, immL, slB_imm]
    rw [imm_rows args fun x hx => ih x ?_]
    · rfl
    · obtain ⟨i, hi, rfl⟩ := List.getElem_of_mem hx
      have := nodesL_mem args i hi
      omega
theorem pvB_imm (f : Bool) (l : Lv) : immL (l.pvB f) = true := pvB_imm' f l.nodes l (Nat.le_refl _)
theorem lvsB_imm (f : Bool) (ls : List Lv) : immLL (ls.map (Lv.pvB f)) = true := by rw [immLL_flatten]; exact imm_rows ls fun x _ => pvB_imm f x
def halfG {α : Type} (g : α → List PV) (z : List Value) (xs : List α) (n : Nat) : List PV := xs.flatMap g ++ zeros z n
theorem flat_lenG {α : Type} (f : α → List PV) (sz : Nat) (hf : ∀ x, (f x).length = sz) : ∀ xs : List α, (xs.flatMap f).length = xs.length * sz
  | [] => by simp
  | x :: r => by simp only [List.flatMap_cons, List.length_append, hf, flat_lenG f sz hf r, List.length_cons, Nat.succ_mul]; omega
theorem chunks_flat {α : Type} (f : α → List PV) (sz : Nat) (hf : ∀ x, (f x).length = sz) : ∀ xs : List α, chunks sz xs.length (xs.flatMap f) = xs.map f
  | [] => rfl
  | x :: r => by
    simp only [List.length_cons, chunks, List.flatMap_cons, List.map_cons]
    rw [List.take_left' (hf x), List.drop_left' (hf x), chunks_flat f sz hf r]
theorem halfG_len {α : Type} {g : α → List PV} {z : List Value} {sz : Nat} (hg : ∀ x, (g x).length = sz) (hz : z.length = sz) (xs : List α) (n : Nat) : (halfG g z xs n).length = xs.length * sz + n * sz := by
  rw [halfG, List.length_append, flat_lenG g sz hg, zeros_len, hz]
theorem halfG_set {α : Type} {g : α → List PV} {z : List Value} {sz : Nat} (hg : ∀ x, (g x).length = sz) (hz : z.length = sz) (xs : List α) (x : α) (n : Nat) : (halfG g z xs (n + 1)).take (xs.length * sz) ++ (g x ++ (halfG g z xs (n + 1)).drop (xs.length * sz + sz)) = halfG g z (xs ++ [x]) n := by
  have hl := flat_lenG g sz hg xs
  simp only [halfG, zeros]
  rw [List.take_left' hl, ← List.drop_drop, List.drop_left' hl, List.drop_left' (by rw [List.length_map]; exact hz), List.flatMap_append]
  simp
theorem halfG_set' {α : Type} {g : α → List PV} {z : List Value} {sz : Nat} (hg : ∀ x, (g x).length = sz) (hz : z.length = sz) (xs : List α) (i n : Nat) (x : α) (hi : i < n) (h : xs.length = i) : (halfG g z xs (n - i)).take (i * sz) ++ (g x ++ (halfG g z xs (n - i)).drop (i * sz + sz)) = halfG g z (xs ++ [x]) (n - (i + 1)) := by
  have e : n - i = (n - (i + 1)) + 1 := by omega
  have := halfG_set hg hz xs x (n - (i + 1))
  rw [h] at this
  rw [e]
  exact this
theorem frzF_sc (k : Nat) (H : Nat → Option PObj) (v : Value) : frzF k H (.sc v) = .sc v := by cases k <;> rfl
theorem frzF_slB (k : Nat) (H : Nat → Option PObj) (f : Bool) (sz : Nat) (es : List (List PV)) : frzF k H (slB f sz es) = slB f sz es := by cases k <;> cases f <;> rfl
theorem frzF_pvB (k : Nat) (H : Nat → Option PObj) (f : Bool) (l : Lv) : (l.pvB f).map (frzF k H) = l.pvB f := by
  cases l
  simp [Lv.pvB, frzF_sc, frzF_slB]
theorem frzF_flat {α : Type} {g : α → List PV} {k : Nat} {H : Nat → Option PObj} (hg : ∀ x, (g x).map (frzF k H) = g x) : ∀ xs : List α, (xs.flatMap g).map (frzF k H) = xs.flatMap g
  | [] => rfl
  | x :: r => by simp only [List.flatMap_cons, List.map_append, hg, frzF_flat hg r]
theorem frzF_row {α : Type} {g : α → List PV} {k sz : Nat} {H : Nat → Option PObj} {id : Nat} {xs : List α} {w : Bool} (hg : ∀ x, (g x).length = sz) (hf : ∀ x, (g x).map (frzF k H) = g x) (h : H id = some ⟨xs.flatMap g, w⟩) : frzF (k + 1) H (.osl id 0 xs.length sz) = .fsl sz (xs.map g) := by
  have hl := flat_lenG g sz hg xs
  simp only [frzF, h, List.drop_zero]
  rw [if_pos (by omega), List.take_of_length_le (by omega), frzF_flat hf, chunks_flat g sz hg]
theorem frzF_agg1 {k : Nat} {H : Nat → Option PObj} {xs : List PV} : frzF (k + 1) H (.agg xs) = .agg (xs.map (frzF k H)) := rfl
theorem Weak.nilF (sz : Nat) : Weak (.sc (.slice none 0 0)) (.fsl sz []) := fun V v h => by
  refine .fsl sz [] v (fun b off len cap _ he => absurd rfl he) (Weak.nil sz V v h)
theorem Weak.nilB (f : Bool) (sz : Nat) : Weak (.sc (.slice none 0 0)) (slB f sz []) := by
  cases f
  · exact Weak.nil sz
  · exact Weak.nilF sz
abbrev z3 : List Value := [.int .i64 0, .int .i64 0, .slice none 0 0]
set_option maxHeartbeats 8000000 in
theorem clone_pF : ∀ (fuel : Nat) (l : Lv), l.nodes ≤ fuel → l.nodes ≤ 2 ^ 40 → PPure Try.prog F.level_clone [.ptr l.pv] (.agg (l.pvB true)) := by
  intro fuel
  induction fuel with
  | zero => intro l h; have := nodes_pos l; omega
  | succ fuel ih =>
    intro l hf hm
    cases l with
    | mk k n args =>
    simp only [Lv.nodes] at hf hm
    refine pure_by is_level_clone (by simp) (by simp [PV.imm, pvB_imm]) fun hb nx => ?_
    have hb0 := len_nodesL args
    by_cases h0 : args.length = 0
    · obtain rfl : args = [] := List.eq_nil_of_length_eq_zero h0
      repeat' (first | ((with_reducible first | refine cond_pos (by omega) ?_ | refine cond_neg (by omega) ?_ | refine guard_pos (by omega) ?_ | refine guard_neg (by omega) ?_ | refine cond_ifn ?_ ?_ | refine cond_waysn ?_ ?_ | refine guard_ifn ?_ ?_ | refine guard_waysn ?_ ?_ | refine cond_if ?_ ?_ | refine cond_ways ?_ ?_ | refine guard_if ?_ ?_ | refine guard_ways ?_ ?_) <;> intro _) | simp (maxSteps := 1000000) (disch := omega) only [go_sem, Nat.reduceAdd, Nat.reduceMul, Nat.reduceSub, Nat.reduceLeDiff, Nat.reduceEqDiff, Nat.reduceBEq, ↓reduceIte, reduceCtorEq, Int.reduceEq, Int.reduceLE, Int.reduceLT, Int.reduceAdd, Int.reduceSub, Int.reduceNeg, Int.reduceToNat, Int.reduceNe, Nat.reducePow, Nat.reduceShiftRight, Nat.reduceMod, mc_level_clone, Lv.pv, *])
      refine c_rounds 1 ?_
      repeat' (first | ((with_reducible first | refine cond_pos (by omega) ?_ | refine cond_neg (by omega) ?_ | refine guard_pos (by omega) ?_ | refine guard_neg (by omega) ?_ | refine cond_ifn ?_ ?_ | refine cond_waysn ?_ ?_ | refine guard_ifn ?_ ?_ | refine guard_waysn ?_ ?_ | refine cond_if ?_ ?_ | refine cond_ways ?_ ?_ | refine guard_if ?_ ?_ | refine guard_ways ?_ ?_) <;> intro _) | simp (maxSteps := 1000000) (disch := omega) only [go_sem, Nat.reduceAdd, Nat.reduceMul, Nat.reduceSub, Nat.reduceLeDiff, Nat.reduceEqDiff, Nat.reduceBEq, ↓reduceIte, reduceCtorEq, Int.reduceEq, Int.reduceLE, Int.reduceLT, Int.reduceAdd, Int.reduceSub, Int.reduceNeg, Int.reduceToNat, Int.reduceNe, Nat.reducePow, Nat.reduceShiftRight, Nat.reduceMod, rounds_next, *])
      refine fin_retF (r0 := .agg [.sc (.int .i64 k), .sc (.int .i64 n), .sc (.slice none 0 0)]) 2 (by (simp (disch := omega) only [go_sem, Nat.reduceMul, Nat.reduceSub, Nat.reduceShiftRight, Nat.reduceMod, Nat.reduceEqDiff, Nat.reduceAdd, ↓reduceIte, Nat.reduceLeDiff, *]); all_goals rfl) ?_
      rw [frzF_agg1]
      simp only [List.map_cons, List.map_nil, Lv.pvB]
      exact Weak.agg ⟨.of_eq (frzF_sc _ _ _), .of_eq (frzF_sc _ _ _), .trans (.of_eq (frzF_sc _ _ _)) (Weak.nilB true 3), trivial⟩
    · have hz1 : 40 * (args.length : Int) ≤ 2 ^ 47 := by omega
      have hz2 : (args.length : Int) ≤ 2 ^ 47 := by omega
      repeat' (first | ((with_reducible first | refine cond_pos (by omega) ?_ | refine cond_neg (by omega) ?_ | refine guard_pos (by omega) ?_ | refine guard_neg (by omega) ?_ | refine cond_ifn ?_ ?_ | refine cond_waysn ?_ ?_ | refine guard_ifn ?_ ?_ | refine guard_waysn ?_ ?_ | refine cond_if ?_ ?_ | refine cond_ways ?_ ?_ | refine guard_if ?_ ?_ | refine guard_ways ?_ ?_) <;> intro _) | simp (maxSteps := 1000000) (disch := omega) only [go_sem, Nat.reduceAdd, Nat.reduceMul, Nat.reduceSub, Nat.reduceLeDiff, Nat.reduceEqDiff, Nat.reduceBEq, ↓reduceIte, reduceCtorEq, Int.reduceEq, Int.reduceLE, Int.reduceLT, Int.reduceAdd, Int.reduceSub, Int.reduceNeg, Int.reduceToNat, Int.reduceNe, Nat.reducePow, Nat.reduceShiftRight, Nat.reduceMod, mc_level_clone, Lv.pv, hz1, hz2, and_self, *])
      refine c_loopW 140733193388048 (by kernel_rfl) (fun j f H m => ∃ i : Nat, j = args.length - i ∧ i ≤ args.length ∧ f 32 = .sc (.int .i64 i) ∧ nx + 23 < m ∧ H nx = some ⟨[.sc (.int .i64 0), .sc (.int .i64 0), .sc (.slice none 0 0)], true⟩ ∧ H (nx + 10) = some ⟨[.sc (.int .i64 k), .sc (.int .i64 n), .osl (nx + 23) 0 args.length 3], true⟩ ∧ H (nx + 23) = some ⟨halfG (Lv.pvB true) z3 (args.take i) (args.length - i), true⟩) _ ⟨0, rfl, (by first | assumption | omega | rfl | (simp (disch := omega) only [go_sem, Nat.reduceMul, Nat.reduceSub, Nat.reduceShiftRight, Nat.reduceMod, Nat.reduceEqDiff, Nat.reduceAdd, ↓reduceIte, Nat.reduceLeDiff, *] <;> omega)), (by first | assumption | omega | rfl | (simp (disch := omega) only [go_sem, Nat.reduceMul, Nat.reduceSub, Nat.reduceShiftRight, Nat.reduceMod, Nat.reduceEqDiff, Nat.reduceAdd, ↓reduceIte, Nat.reduceLeDiff, *] <;> omega)), ?mm, ?r0, ?r1, ?r2⟩ ?_
      case mm => exact (by omega : nx + 23 < nx + 32)
      case r0 => simp [upd]
      case r1 => simp [upd]
      case r2 => simp [upd, halfG]
      rintro _ f H m ⟨i, rfl, hi, e32, hm2, hH0, hH1, hH⟩
      by_cases hlt : i < args.length
      · have eg : args[i]? = some args[i] := List.getElem?_eq_getElem hlt
        have hn := nodesL_mem args i hlt
        have hhl := halfG_len (pvB_len true) (rfl : z3.length = 3) (args.take i) (args.length - i)
        rw [List.length_take, Nat.min_eq_left hi] at hhl
        have hhs := halfG_set' (pvB_len true) (rfl : z3.length = 3) (args.take i) i args.length args[i] hlt (by rw [List.length_take, Nat.min_eq_left hi])
        have hc := ih args[i] (by omega) (by omega)
        have hle : i * 3 + 3 ≤ i * 3 + (args.length - i) * 3 := by omega
        rw [← List.take_succ_eq_append_getElem hlt] at hhs
        clear ih
        repeat' (first | ((with_reducible first | refine cond_pos (by omega) ?_ | refine cond_neg (by omega) ?_ | refine guard_pos (by omega) ?_ | refine guard_neg (by omega) ?_ | refine cond_ifn ?_ ?_ | refine cond_waysn ?_ ?_ | refine guard_ifn ?_ ?_ | refine guard_waysn ?_ ?_ | refine cond_if ?_ ?_ | refine cond_ways ?_ ?_ | refine guard_if ?_ ?_ | refine guard_ways ?_ ?_) <;> intro _) | (((with_reducible refine call_id ?_); (first | (refine call_pure (hc) ?_)))) | simp (maxSteps := 1000000) (disch := omega) only [go_sem, Nat.reduceAdd, Nat.reduceMul, Nat.reduceSub, Nat.reduceLeDiff, Nat.reduceEqDiff, Nat.reduceBEq, ↓reduceIte, reduceCtorEq, Int.reduceEq, Int.reduceLE, Int.reduceLT, Int.reduceAdd, Int.reduceSub, Int.reduceNeg, Int.reduceToNat, Int.reduceNe, Nat.reducePow, Nat.reduceShiftRight, Nat.reduceMod, Lv.pv, *])
        refine Nx.mk (args.length - (i + 1)) (by first | assumption | omega | rfl | (simp (disch := omega) only [go_sem, Nat.reduceMul, Nat.reduceSub, Nat.reduceShiftRight, Nat.reduceMod, Nat.reduceEqDiff, Nat.reduceAdd, ↓reduceIte, Nat.reduceLeDiff, *] <;> omega)) ⟨i + 1, (by first | assumption | omega | rfl | (simp (disch := omega) only [go_sem, Nat.reduceMul, Nat.reduceSub, Nat.reduceShiftRight, Nat.reduceMod, Nat.reduceEqDiff, Nat.reduceAdd, ↓reduceIte, Nat.reduceLeDiff, *] <;> omega)), (by first | assumption | omega | rfl | (simp (disch := omega) only [go_sem, Nat.reduceMul, Nat.reduceSub, Nat.reduceShiftRight, Nat.reduceMod, Nat.reduceEqDiff, Nat.reduceAdd, ↓reduceIte, Nat.reduceLeDiff, *] <;> omega)), (by first | assumption | omega | rfl | (simp (disch := omega) only [go_sem, Nat.reduceMul, Nat.reduceSub, Nat.reduceShiftRight, Nat.reduceMod, Nat.reduceEqDiff, Nat.reduceAdd, ↓reduceIte, Nat.reduceLeDiff, *] <;> omega)), (by first | assumption | omega | rfl | (simp (disch := omega) only [go_sem, Nat.reduceMul, Nat.reduceSub, Nat.reduceShiftRight, Nat.reduceMod, Nat.reduceEqDiff, Nat.reduceAdd, ↓reduceIte, Nat.reduceLeDiff, *] <;> omega)), (by first | assumption | omega | rfl | (simp (disch := omega) only [go_sem, Nat.reduceMul, Nat.reduceSub, Nat.reduceShiftRight, Nat.reduceMod, Nat.reduceEqDiff, Nat.reduceAdd, ↓reduceIte, Nat.reduceLeDiff, *] <;> omega)), (by first | assumption | omega | rfl | (simp (disch := omega) only [go_sem, Nat.reduceMul, Nat.reduceSub, Nat.reduceShiftRight, Nat.reduceMod, Nat.reduceEqDiff, Nat.reduceAdd, ↓reduceIte, Nat.reduceLeDiff, *] <;> omega)), (by first | assumption | omega | rfl | (simp (disch := omega) only [go_sem, Nat.reduceMul, Nat.reduceSub, Nat.reduceShiftRight, Nat.reduceMod, Nat.reduceEqDiff, Nat.reduceAdd, ↓reduceIte, Nat.reduceLeDiff, *] <;> omega))⟩
      · obtain rfl : i = args.length := by omega
        have h1 : halfG (Lv.pvB true) z3 (List.take args.length args) (args.length - args.length) = args.flatMap (Lv.pvB true) := by rw [List.take_length, Nat.sub_self]; simp [halfG, zeros]
        rw [h1] at hH
        clear ih
        repeat' (first | ((with_reducible first | refine cond_pos (by omega) ?_ | refine cond_neg (by omega) ?_ | refine guard_pos (by omega) ?_ | refine guard_neg (by omega) ?_ | refine cond_ifn ?_ ?_ | refine cond_waysn ?_ ?_ | refine guard_ifn ?_ ?_ | refine guard_waysn ?_ ?_ | refine cond_if ?_ ?_ | refine cond_ways ?_ ?_ | refine guard_if ?_ ?_ | refine guard_ways ?_ ?_) <;> intro _) | simp (maxSteps := 1000000) (disch := omega) only [go_sem, Nat.reduceAdd, Nat.reduceMul, Nat.reduceSub, Nat.reduceLeDiff, Nat.reduceEqDiff, Nat.reduceBEq, ↓reduceIte, reduceCtorEq, Int.reduceEq, Int.reduceLE, Int.reduceLT, Int.reduceAdd, Int.reduceSub, Int.reduceNeg, Int.reduceToNat, Int.reduceNe, Nat.reducePow, Nat.reduceShiftRight, Nat.reduceMod, Lv.pv, *])
        refine fin_retF (r0 := .agg [.sc (.int .i64 k), .sc (.int .i64 n), .osl (nx + 23) 0 args.length 3]) 2 (by (simp (disch := omega) only [go_sem, Nat.reduceMul, Nat.reduceSub, Nat.reduceShiftRight, Nat.reduceMod, Nat.reduceEqDiff, Nat.reduceAdd, ↓reduceIte, Nat.reduceLeDiff, *]); all_goals rfl) ?_
        rw [frzF_agg1]
        simp only [List.map_cons, List.map_nil, Lv.pvB]
        refine Weak.agg ⟨.of_eq (frzF_sc _ _ _), .of_eq (frzF_sc _ _ _), .of_eq ?_, trivial⟩
        exact frzF_row (pvB_len true) (frzF_pvB 0 _ true) (by simp only [upd_ne _ _ (show nx + 23 ≠ nx by omega)]; exact hH)
end
section
set_option maxRecDepth 20000
attribute [local go_sem] pv_len pv_take id_ne id_ne' id_ne2 List.append_assoc Nat.add_assoc pv_one pvB_len pvB_take pvB_one
theorem Max1_pF (l : Lv) (hl : l.nodes ≤ 2 ^ 40) : PPure Try.prog F.level_Max [.sl 3 [l.pv]] (.agg (l.pvB true)) := by
  refine pure_by is_level_Max (by simp) (by simp [PV.imm, pvB_imm]) fun hb nx => ?_
  repeat' (first | ((with_reducible first | refine cond_pos (by omega) ?_ | refine cond_neg (by omega) ?_ | refine guard_pos (by omega) ?_ | refine guard_neg (by omega) ?_ | refine cond_ifn ?_ ?_ | refine cond_waysn ?_ ?_ | refine guard_ifn ?_ ?_ | refine guard_waysn ?_ ?_ | refine cond_if ?_ ?_ | refine cond_ways ?_ ?_ | refine guard_if ?_ ?_ | refine guard_ways ?_ ?_) <;> intro _) | (((with_reducible refine call_id ?_); (first | (refine call_pure (clone_pF l.nodes l (Nat.le_refl _) hl) ?_)))) | simp (maxSteps := 1000000) (disch := omega) only [go_sem, Nat.reduceAdd, Nat.reduceMul, Nat.reduceSub, Nat.reduceLeDiff, Nat.reduceEqDiff, Nat.reduceBEq, ↓reduceIte, reduceCtorEq, Int.reduceEq, Int.reduceLE, Int.reduceLT, Int.reduceAdd, Int.reduceSub, Int.reduceNeg, Int.reduceToNat, Int.reduceNe, Nat.reducePow, Nat.reduceShiftRight, Nat.reduceMod, mc_level_Max, *])
  refine c_rounds 1 ?_
  repeat' (first | ((with_reducible first | refine cond_pos (by omega) ?_ | refine cond_neg (by omega) ?_ | refine guard_pos (by omega) ?_ | refine guard_neg (by omega) ?_ | refine cond_ifn ?_ ?_ | refine cond_waysn ?_ ?_ | refine guard_ifn ?_ ?_ | refine guard_waysn ?_ ?_ | refine cond_if ?_ ?_ | refine cond_ways ?_ ?_ | refine guard_if ?_ ?_ | refine guard_ways ?_ ?_) <;> intro _) | simp (maxSteps := 1000000) (disch := omega) only [go_sem, Nat.reduceAdd, Nat.reduceMul, Nat.reduceSub, Nat.reduceLeDiff, Nat.reduceEqDiff, Nat.reduceBEq, ↓reduceIte, reduceCtorEq, Int.reduceEq, Int.reduceLE, Int.reduceLT, Int.reduceAdd, Int.reduceSub, Int.reduceNeg, Int.reduceToNat, Int.reduceNe, Nat.reducePow, Nat.reduceShiftRight, Nat.reduceMod, rounds_next, *])
  refine fin_retF (r0 := .agg (l.pvB true)) 1 (by (simp (disch := omega) only [go_sem, Nat.reduceMul, Nat.reduceSub, Nat.reduceShiftRight, Nat.reduceMod, Nat.reduceEqDiff, Nat.reduceAdd, ↓reduceIte, Nat.reduceLeDiff, *]); all_goals rfl) (.of_eq ?_)
  rw [frzF_agg1, frzF_pvB]
end
end Go.Proofs.Ytfhblaggeahbjaa
